"""A desk: keeps a keep, is told lines, and answers by texts."""

from pairfolds.counts import how_many
from pairfolds.errors import NoFolding, NoNumber, NoPlace, NoString, NoText
from pairfolds.foldings import brackets
from pairfolds.keep import Keep
from pairfolds.least import least_folding
from pairfolds.loops import worth_of
from pairfolds.numbers import folding_of, number_of
from pairfolds.reader import read_folding, read_program, read_rules
from pairfolds.rules import rules_of
from pairfolds.walker import walked
from pairfolds.words import number_in, words_in

MOST_FIGURES = 60
ENDS = ("begin", "end")


def set_rules(desk, text):
    desk.keep = Keep(read_rules(text))
    return "ok"


def set_string(desk, text):
    desk.keep = Keep(desk.keep.rules(), text)
    return "ok"


def set_letter(desk, place, letter):
    desk.keep.letter(place, letter)
    return "ok"


def begin_with(desk, letter):
    desk.keep.put(letter, at_end=False)
    return "ok"


def end_with(desk, letter):
    desk.keep.put(letter)
    return "ok"


def cut(desk, end):
    desk.keep.take(at_end=end == "end")
    return "ok"


def tell_least(desk):
    return str(desk.keep.least())


def tell_fold(desk):
    string = desk.keep.string()
    return brackets(string, least_folding(desk.keep.rules(), string))


def tell_count(desk):
    return str(how_many(desk.keep.rules(), desk.keep.string()))


def folding_told(desk, text):
    return read_folding(desk.keep.rules(), desk.keep.string(), text)


def tell_number(desk, text):
    return str(number_of(desk.keep.rules(), desk.keep.string(), folding_told(desk, text)))


def tell_brackets(desk, number):
    string = desk.keep.string()
    return brackets(string, folding_of(desk.keep.rules(), string, number))


def tell_worth(desk, text):
    return str(worth_of(desk.keep.rules(), desk.keep.string(), folding_told(desk, text)))


def tell_made(desk):
    return str(desk.keep.made())


def run(desk, text):
    told = walked(desk.keep.rules(), read_program(text))
    return " ".join([str(thing) for thing in told]) if told else "-"


ANSWERS = {
    "rules": set_rules, "string": set_string, "letter": set_letter, "begin": begin_with, "end": end_with, "cut": cut,
    "least": tell_least, "fold": tell_fold, "count": tell_count, "number": tell_number, "brackets": tell_brackets,
    "worth": tell_worth, "made": tell_made, "run": run,
}


def parts_of(word, words):
    """What stands behind a word of a line by itself, None where the line is none."""
    if word in ("least", "fold", "count", "made") and not words:
        return []
    if word in ("string", "number", "worth") and len(words) < 2:
        return words if words else [""]
    if word in ENDS and len(words) == 1:
        return words
    if word == "cut" and len(words) == 1 and words[0] in ENDS:
        return words
    if (word == "letter" and len(words) == 2) or (word == "brackets" and len(words) == 1):
        number = number_in(words[0], MOST_FIGURES)
        return None if number is None else [number] + words[1:]
    return None


def line_told(text):
    """A tuple (word, parts) of what a desk is told; NoText of whatever is no line."""
    if not isinstance(text, str):
        raise NoText(None)
    head, line_end, rest = text.partition("\n")
    if line_end:
        if head not in ("rules", "run"):
            raise NoText(None)
        return head, [rest]
    words = words_in(text)
    parts = None if words is None else parts_of(words[0], words[1:])
    if parts is None:
        raise NoText(None)
    return words[0], parts


class Desk:
    """Keeps a keep, at first of one letter that does not pair, and a string without letters."""

    def __init__(self):
        self.keep = Keep(rules_of("a"))

    def say(self, text):
        """The answer to a line; NoText of whatever is no line."""
        word, parts = line_told(text)
        answer = ANSWERS[word]
        try:
            return answer(self, *parts)
        except NoString:
            return "refused NoString"
        except NoFolding:
            return "refused NoFolding"
        except NoText:
            return "refused NoText"
        except NoNumber:
            return "refused NoNumber"
        except NoPlace:
            return "refused NoPlace"
