"""Programs: tuples of lines that set a string, change it, and ask of its foldings."""

from pairfolds.rules import SMALL_LETTERS, is_whole
from pairfolds.strings import is_string

MOST_LINES = 20
MOST_SIGNS = 40
MOST_NUMBER = 99
MOST_LETTERS_WALKED = 8


def is_text_of(signs, thing):
    """Whether it is a text of at most forty of the signs."""
    return isinstance(thing, str) and len(thing) <= MOST_SIGNS and all([sign in signs for sign in thing])


def is_line_text(thing):
    return is_text_of(SMALL_LETTERS, thing)


def is_line_letter(thing):
    return is_line_text(thing) and len(thing) == 1


def are_line_brackets(thing):
    return is_text_of("().", thing)


def is_line_number(thing):
    return is_whole(thing) and 0 <= thing <= MOST_NUMBER


# What stands behind each word.
FORMS = {
    "string": (is_line_text,),
    "letter": (is_line_number, is_line_letter),
    "least": (),
    "count": (),
    "worth": (are_line_brackets,),
    "has": (is_line_number, is_line_number),
    "within": (is_line_number,),
}


def is_line(thing):
    """Whether it is a line of a program, whatever it is."""
    if not isinstance(thing, tuple) or not thing or not isinstance(thing[0], str) or thing[0] not in FORMS:
        return False
    forms = FORMS[thing[0]]
    if len(thing) != len(forms) + 1:
        return False
    for form, part in zip(forms, thing[1:]):
        if not form(part):
            return False
    return True


def is_program(thing):
    """Whether it is a program, whatever it is."""
    return isinstance(thing, tuple) and len(thing) <= MOST_LINES and all([is_line(line) for line in thing])


def string_after(rules, string, line):
    """The string behind a line that sets or changes it, None where that can't be done."""
    if line[0] == "string":
        fits = is_string(rules, line[1]) and len(line[1]) <= MOST_LETTERS_WALKED
        return line[1] if fits else None
    place, letter = line[1:]
    if not 0 <= place < len(string) or letter not in rules[0]:
        return None
    return string[:place] + letter + string[place + 1:]


def gone_through(rules, program, answer):
    """What a program tells, line by line, where answer(rules, string, line) tells of the lines that ask."""
    string = ""
    told = []
    for line in program:
        if line[0] == "string" or line[0] == "letter":
            after = string_after(rules, string, line)
            if after is None:
                told.append("no")
            else:
                string = after
        else:
            told.append(answer(rules, string, line))
    return told
