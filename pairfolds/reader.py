"""Rules, programs and foldings read from their texts."""

from pairfolds.errors import NoFolding, NoText
from pairfolds.foldings import is_folding, pairs_in
from pairfolds.programs import MOST_LINES, is_line
from pairfolds.rules import rules_of, wrong_part
from pairfolds.words import lines_in, number_in, words_in, worth_in

PARTS = ("letters", "pairs", "span", "loops", "stacks")
# How many words behind a program's word are numbers, where there are some.
NUMBERS = {"letter": 1, "has": 2, "within": 1}
NUMBER_FIGURES = 2


def need_text(thing):
    if not isinstance(thing, str):
        raise NoText(None)


def row_in(word):
    """The row of texts and a worth behind them that a word writes; what is no worth is None."""
    pieces = word.split(":")
    return tuple(pieces[:-1]) + (worth_in(pieces[-1]),)


def part_in(name, words):
    """What the words behind the name of a part write; where that is no such part it may be any other thing."""
    if name == "letters":
        return words[0] if len(words) == 1 else None
    if name == "span":
        return worth_in(words[0]) if len(words) == 1 else None
    if name == "loops":
        return tuple([worth_in(word) for word in words])
    return tuple([row_in(word) for word in words])


def read_rules(text):
    """The rules that a text writes; NoText of whatever writes none."""
    need_text(text)
    lines, rest = lines_in(text)
    # The parts that are not read yet go with any others: so what is wrong is so by the lines that were read.
    parts = list(rules_of("a"))
    for at, name in enumerate(PARTS):
        words = words_in(lines[at]) if at < len(lines) else None
        if words is None or words[0] != name:
            raise NoText(at)
        parts[at] = part_in(name, words[1:])
        if wrong_part(*parts) is not None:
            raise NoText(at)
    if rest or len(lines) > len(PARTS):
        raise NoText(len(PARTS))
    return tuple(parts)


def line_in(line):
    """What a line of a program's text writes; where that is no line of a program it may be any other thing."""
    words = words_in(line)
    if words is None:
        return None
    if words == ["string"] or words == ["worth"]:
        return words[0], ""
    behind = 1 + NUMBERS.get(words[0], 0)
    numbers = [number_in(word, NUMBER_FIGURES) for word in words[1:behind]]
    return tuple(words[:1] + numbers + words[behind:])


def read_program(text):
    """The program that a text writes; NoText of whatever writes none."""
    need_text(text)
    lines, rest = lines_in(text)
    program = [line_in(line) for line in lines]
    for at, line in enumerate(program):
        if at == MOST_LINES or not is_line(line):
            raise NoText(at)
    if rest:
        raise NoText(len(lines))
    return tuple(program)


def read_folding(rules, string, text):
    """The folding of the string that brackets write: NoText of what are none so long, NoFolding of other ones."""
    if not isinstance(text, str) or len(text) != len(string):
        raise NoText(None)
    folding = pairs_in(text)
    if folding is None:
        raise NoText(None)
    if not is_folding(rules, string, folding):
        raise NoFolding("no folding of the string")
    return folding
