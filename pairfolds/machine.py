"""The machine: goes through a program by tables and counts, without a list of foldings."""

from pairfolds.counts import how_many
from pairfolds.errors import NoFolding, NoText
from pairfolds.forcing import is_forced
from pairfolds.least import least_worth
from pairfolds.loops import worth_of
from pairfolds.near import how_near
from pairfolds.programs import gone_through
from pairfolds.reader import read_folding


def worth_read(rules, string, text):
    """The worth of the folding that the text writes, or "no"."""
    try:
        return worth_of(rules, string, read_folding(rules, string, text))
    except (NoText, NoFolding):
        return "no"


def answer_by_tables(rules, string, line):
    if line[0] == "least":
        return least_worth(rules, string)
    if line[0] == "count":
        return how_many(rules, string)
    if line[0] == "worth":
        return worth_read(rules, string, line[1])
    if line[0] == "has":
        return is_forced(rules, string, line[1:], ((), ()))
    return how_near(rules, string, more=line[1])


def run_by_tables(rules, program):
    """What the program tells with the rules, by tables and counts."""
    return gone_through(rules, program, answer_by_tables)
