"""Pairfolds: strings folded by pairs of their letters."""
