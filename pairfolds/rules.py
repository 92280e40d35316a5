"""Rules: the letters, which of them may pair, and what pairs and loops are worth."""

from pairfolds.errors import NoRules

LOOPS = ("stacked", "inner", "inner free", "forked", "branch", "fork free", "lone", "lone free", "open")

SMALL_LETTERS = "abcdefghijklmnopqrstuvwxyz"
MOST_LETTERS = 6
MOST_ROWS = 12
MOST_SPAN = 3
MOST_WORTH = 99


def is_whole(thing):
    """Whether it is a whole number; a truth is none, though Python counts it as an int."""
    return isinstance(thing, int) and not isinstance(thing, bool)


def is_row(thing, size):
    return isinstance(thing, tuple) and len(thing) == size


def rises(things):
    """Whether each is more than the one ahead of it."""
    return all([thing < after for thing, after in zip(things, things[1:])])


def is_worth(thing):
    return is_whole(thing) and -MOST_WORTH <= thing <= MOST_WORTH


def are_letters(thing):
    if not isinstance(thing, str) or not 1 <= len(thing) <= MOST_LETTERS:
        return False
    return rises(thing) and all([sign in SMALL_LETTERS for sign in thing])


def is_both(letters, thing):
    """Whether it is a text of two of the letters."""
    return isinstance(thing, str) and len(thing) == 2 and thing[0] in letters and thing[1] in letters


def is_pair_row(letters, thing):
    return is_row(thing, 2) and is_both(letters, thing[0]) and is_worth(thing[1])


def are_pairs(letters, thing):
    if not isinstance(thing, tuple) or len(thing) > MOST_ROWS:
        return False
    # The worth is left out, so that no two may be alike in their texts.
    return all([is_pair_row(letters, row) for row in thing]) and rises([row[0] for row in thing])


def is_span(thing):
    return is_whole(thing) and 0 <= thing <= MOST_SPAN


def are_loops(thing):
    return is_row(thing, len(LOOPS)) and all([is_worth(worth) for worth in thing])


def is_stack_row(texts, thing):
    return is_row(thing, 3) and thing[0] in texts and thing[1] in texts and is_worth(thing[2])


def are_stacks(pairs, thing):
    if not isinstance(thing, tuple) or len(thing) > MOST_ROWS:
        return False
    texts = [row[0] for row in pairs]
    return all([is_stack_row(texts, row) for row in thing]) and rises([row[:2] for row in thing])


def wrong_part(letters, pairs, span, loops, stacks):
    """The name of the first part that is none, or None."""
    if not are_letters(letters):
        return "letters"
    if not are_pairs(letters, pairs):
        return "pairs"
    if not is_span(span):
        return "span"
    if not are_loops(loops):
        return "loops"
    if not are_stacks(pairs, stacks):
        return "stacks"
    return None


def is_rules(thing):
    """Whether it is rules, whatever it is."""
    if not is_row(thing, 5):
        return False
    letters, pairs, span, loops, stacks = thing
    return wrong_part(letters, pairs, span, loops, stacks) is None


def as_tuple(thing):
    return tuple(thing) if isinstance(thing, list) else thing


def rules_of(letters, *, pairs=(), span=0, loops=(0, 0, 0, 0, 0, 0, 0, 0, 0), stacks=()):
    """Rules of these parts; NoRules names the first part that is none."""
    made = (letters, as_tuple(pairs), span, as_tuple(loops), as_tuple(stacks))
    part = wrong_part(*made)
    if part is not None:
        raise NoRules(part)
    return made


def pair_worth(rules, both):
    """The worth of a pair by the text of its letters, None where they may not pair."""
    for text, worth in rules[1]:
        if text == both:
            return worth
    return None


def stack_worth(rules, outer, within):
    """The worth of a pair of the text within straight in one of the text outer."""
    for text, inner, worth in rules[4]:
        if text == outer and inner == within:
            return worth
    return 0
