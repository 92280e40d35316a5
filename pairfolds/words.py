"""Lines of a text, words of a line, and the numbers that words write."""

FIGURES = "0123456789"
WORTH_FIGURES = 2


def lines_in(text):
    """A tuple (lines, rest): the lines that have their line end, and what stands behind the last one."""
    pieces = text.split("\n")
    return pieces[:-1], pieces[-1]


def words_in(line):
    """The words of a line, None where one is empty."""
    words = line.split(" ")
    return None if "" in words else words


def number_in(word, most):
    """The number from 0 on that a word of at most so many figures writes, None where it writes none."""
    # Python's own reading takes signs, blanks and noughts ahead, and refuses numbers of thousands of figures.
    if not 1 <= len(word) <= most or not all([sign in FIGURES for sign in word]):
        return None
    if len(word) > 1 and word.startswith("0"):
        return None
    return int(word)


def worth_in(word):
    """The number of at most two figures that a word writes, with a sign where it is below 0, or None."""
    if not word.startswith("-"):
        return number_in(word, WORTH_FIGURES)
    number = number_in(word[1:], WORTH_FIGURES)
    return None if number is None or number == 0 else -number
