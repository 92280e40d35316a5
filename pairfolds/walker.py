"""The walker: goes through a program by a list of all foldings of the string."""

from pairfolds.counts import with_worths
from pairfolds.foldings import brackets
from pairfolds.programs import gone_through


def worth_listed(string, rows, text):
    """The worth of the folding among the rows that the text writes, or "no"."""
    found = [worth for worth, folding in rows if brackets(string, folding) == text]
    return found[0] if found else "no"


def answer_by_list(rules, string, line):
    rows = with_worths(rules, string)
    least = rows[0][0]
    if line[0] == "least":
        return least
    if line[0] == "count":
        return len(rows)
    if line[0] == "worth":
        return worth_listed(string, rows, line[1])
    if line[0] == "has":
        return all([line[1:] in folding for worth, folding in rows if worth == least])
    return len([worth for worth, folding in rows if worth <= least + line[1]])


def walked(rules, program):
    """What the program tells with the rules, by lists of all foldings."""
    return gone_through(rules, program, answer_by_list)
