"""Strings that fold as wished, and papers that show that none does."""

from pairfolds.counts import all_foldings
from pairfolds.foldings import is_folding, pairs_in
from pairfolds.loops import worth_of
from pairfolds.rules import is_row


def strings_of(rules, length):
    """All strings so long, as Python sorts."""
    made = [""]
    for turn in range(length):
        made = [string + letter for string in made for letter in rules[0]]
    return made


def forbids(rules, string, asked, folding, alone):
    """Whether a folding forbids that the asked one is a least one, or the only one."""
    worth = worth_of(rules, string, folding)
    most = worth_of(rules, string, asked)
    return worth < most or (alone and worth == most and folding != asked)


def all_forbidding(rules, string, asked, alone):
    """All foldings of the string that forbid the asked one, which may stand on it."""
    foldings = all_foldings(rules, string)
    return [folding for folding in foldings if forbids(rules, string, asked, folding, alone)]


def folds_so(rules, string, asked, alone):
    return is_folding(rules, string, asked) and not all_forbidding(rules, string, asked, alone)


def wished(rules, wish, *, alone=False):
    """The first string that folds as wished, or None."""
    asked = pairs_in(wish)
    for string in strings_of(rules, len(wish)):
        if folds_so(rules, string, asked, alone):
            return string
    return None


def against(rules, wish, *, alone=False):
    """A paper against the wish: of each string a folding that forbids it; None where a string folds so."""
    asked = pairs_in(wish)
    paper = []
    for string in strings_of(rules, len(wish)):
        if not is_folding(rules, string, asked):
            paper.append((string, None))
        else:
            found = all_forbidding(rules, string, asked, alone)
            if not found:
                return None
            paper.append((string, found[0]))
    return paper


def is_paper_row(rules, string, asked, thing, alone):
    """Whether it is the row of the string in a paper against the asked folding."""
    if not is_row(thing, 2) or thing[0] != string:
        return False
    if not is_folding(rules, string, asked):
        return thing[1] is None
    return is_folding(rules, string, thing[1]) and forbids(rules, string, asked, thing[1], alone)


def lets_against(rules, wish, thing, *, alone=False):
    """Whether it is a paper against the wish, whatever it is."""
    strings = strings_of(rules, len(wish))
    if not isinstance(thing, list) or len(thing) != len(strings):
        return False
    asked = pairs_in(wish)
    return all([is_paper_row(rules, string, asked, row, alone) for string, row in zip(strings, thing)])
