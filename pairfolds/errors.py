"""The errors that pairfolds raises."""


class FoldError(ValueError):
    """What was handed in is none of the things that were asked for."""


class NoRules(FoldError):
    """No rules: part names the first part that is none."""

    def __init__(self, part):
        super().__init__(f"no rules by their {part}")
        self.part = part


class NoString(FoldError):
    """No string of the rules."""


class NoFolding(FoldError):
    """No folding of the string."""


class NoText(FoldError):
    """No text that can be read: at is the number of the first wrong line, or None."""

    def __init__(self, at):
        super().__init__(f"no such text, by line {at}")
        self.at = at


class NoNumber(IndexError):
    """No number of a folding."""


class NoPlace(KeyError):
    """No place of the string."""

    def __init__(self, place):
        super().__init__("no such place")
        self.place = place
