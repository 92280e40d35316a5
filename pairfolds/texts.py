"""Rules and programs written as texts."""


def line_of(words):
    return " ".join(words) + "\n"


def rows_as_words(rows):
    """A word of each row, its parts with colons between."""
    return [":".join([str(part) for part in row]) for row in rows]


def show_rules(rules):
    """The rules as a text of five lines."""
    letters, pairs, span, loops, stacks = rules
    lines = (
        ["letters", letters],
        ["pairs"] + rows_as_words(pairs),
        ["span", str(span)],
        ["loops"] + [str(worth) for worth in loops],
        ["stacks"] + rows_as_words(stacks),
    )
    return "".join([line_of(words) for words in lines])


def show_program(program):
    """The program as a text with a line each."""
    # A text of no signs is no word of the line.
    return "".join([line_of([str(part) for part in line if part != ""]) for line in program])
