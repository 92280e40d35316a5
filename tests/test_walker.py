"""The walker and the machine, each held against a plain walk by lists, and so against one another."""

import random
import time
import unittest
from unittest import mock

from pairfolds import machine as machine_file
from pairfolds import walker as walker_file
from pairfolds.machine import run_by_tables
from pairfolds.walker import walked
from tests.helper import ALL_RULES, EIGHT, NO_PAIRS, ODD, ONE_LETTER, SPANNED
from tests.helper import ask_both_ways, every_folding, kinds_in, listed_with_worths, names_of, some_program, some_rules
from tests.helper import stays_as_told

TELLING = (walked, run_by_tables)
AB = ("ab", (("ab", -3), ("ba", -1)), 0, (0,) * 9, ())


def written(string, folding):
    signs = dict([(i, "(") for i, j in folding] + [(j, ")") for i, j in folding])
    return "".join(signs.get(place, ".") for place in range(len(string)))


def plain_answer(rules, string, line):
    listed = listed_with_worths(rules, string)
    least = listed[0][0]
    if line[0] == "least":
        return least
    if line[0] == "count":
        return len(listed)
    if line[0] == "worth":
        return dict((written(string, folding), worth) for worth, folding in listed).get(line[1], "no")
    if line[0] == "has":
        return all(line[1:] in folding for worth, folding in listed if worth == least)
    return sum(worth <= least + line[1] for worth, folding in listed)


def plain_walk(rules, program):
    string, told = "", []
    for line in program:
        if line[0] == "string":
            if len(line[1]) <= 8 and set(line[1]) <= set(rules[0]):
                string = line[1]
            else:
                told.append("no")
        elif line[0] == "letter":
            if line[1] < len(string) and line[2] in rules[0]:
                string = string[:line[1]] + line[2] + string[line[1] + 1:]
            else:
                told.append("no")
        else:
            told.append(plain_answer(rules, string, line))
    return told


class WalkTest(unittest.TestCase):

    def holds(self, rules, program, due=None):
        due = plain_walk(rules, program) if due is None else due
        for tell in TELLING:
            told = ask_both_ways(self, tell, rules=rules, program=program)
            self.assertIs(type(told), list)
            # Truths and numbers are held apart, too.
            self.assertEqual(repr(told), repr(due), (tell, rules, program))

    def test_drawn_programs(self):
        draw = random.Random(6)
        for turn in range(250):
            rules = ALL_RULES[turn % len(ALL_RULES)] if turn % 2 else some_rules(draw)
            self.holds(rules, some_program(draw, letters=rules[0] + rules[0] + "z", most=5 if turn % 5 else 8))

    def test_all_words_of_each_string(self):
        for rules, string in EIGHT + tuple((rules, "") for rules in ALL_RULES):
            foldings = every_folding(rules, string)
            program = [("string", string), ("least",), ("count",)]
            program += [("within", more) for more in (0, 1, 10, 50, 99)]
            program += [("worth", written(string, foldings[at])) for at in (0, len(foldings) // 2, -1)]
            program += [("has", i, j) for i, j in foldings[-1][:4]] + [("has", 0, 7), ("has", 3, 3), ("has", 7, 0)]
            self.holds(rules, tuple(program[:20]))

    def test_by_hand(self):
        self.holds(AB, (), [])
        self.holds(AB, (("string", "ab"),), [])
        self.holds(AB, (("string", "aabb"), ("letter", 0, "b")), [])
        self.holds(AB, (("least",), ("count",), ("worth", ""), ("has", 0, 1), ("within", 0)), [0, 1, 0, False, 1])
        self.holds(AB, (("string", "ab"), ("least",), ("count",), ("worth", "()"), ("worth", "..")), [-3, 2, -3, 0])
        self.holds(AB, (("string", "ab"), ("has", 0, 1), ("within", 2), ("within", 3)), [True, 1, 2])
        self.holds(AB, (("string", "aba"), ("has", 0, 1), ("letter", 0, "b"), ("has", 1, 2), ("has", 0, 2)), [
            True, False, False,
        ])

    def test_no_changes_nothing(self):
        for line in (
            ("string", "abc"), ("string", "aaaaaaaaa"), ("string", "z"), ("string", "a" * 40), ("letter", 2, "a"),
            ("letter", 99, "a"), ("letter", 0, "c"), ("letter", 1, "z"), ("letter", 9, "z"),
        ):
            self.holds(AB, (("string", "ab"), line, ("least",), ("count",)), ["no", -3, 2])
            self.holds(AB, (line, ("least",), ("count",)), ["no", 0, 1])
        self.holds(AB, (("letter", 0, "a"), ("string", "a"), ("letter", 0, "b"), ("letter", 1, "b")), ["no", "no"])

    def test_eight_letters_and_nine(self):
        self.holds(AB, (("string", "abababab"), ("count",)), [len(every_folding(AB, "abababab"))])
        self.holds(AB, (("string", "ababababa"), ("count",)), ["no", 1])

    def test_brackets_that_are_no_folding(self):
        for text in ("", ".", "...", "(", "((", "))", ")(", "()", "(.", "....", "(())", "()..", "." * 40):
            self.holds(SPANNED, (("string", "ab"), ("worth", text)), ["no"])
        self.holds(SPANNED, (("string", "ab"), ("worth", "..")), [0])
        self.holds(SPANNED, (("worth", "."), ("worth", "()")), ["no", "no"])

    def test_has_of_no_two_places(self):
        for i, j in ((1, 0), (0, 0), (1, 1), (0, 2), (2, 3), (99, 99), (0, 99), (99, 0)):
            self.holds(AB, (("string", "ab"), ("has", i, j)), [False])
            self.holds(NO_PAIRS, (("has", i, j),), [False])

    def test_within_great_ones(self):
        self.holds(AB, (("string", "abababab"), ("within", 0), ("within", 99)), [1, len(every_folding(AB, "abababab"))])
        self.holds(ONE_LETTER, (("string", "aaaaaaaa"), ("within", 99), ("count",)), [323, 323])

    def test_programs_of_twenty_lines_in_good_time(self):
        program = (("string", "aaaaaaaa"),) + (("count",), ("has", 0, 7), ("within", 3), ("worth", "........")) * 4
        program += (("letter", 0, "a"), ("least",), ("count",))
        began = time.process_time()
        for turn in range(20):
            self.assertEqual(walked(ONE_LETTER, program), run_by_tables(ONE_LETTER, program))
        self.assertLess(time.process_time() - began, 10)

    def test_the_walker_lists_all_foldings_and_the_machine_none(self):
        program = (("string", "abacbaab"), ("least",), ("count",), ("worth", "........"), ("has", 0, 1), ("within", 9))
        due = plain_walk(ODD, program)
        with mock.patch("pairfolds.counts.all_foldings", side_effect=AssertionError):
            self.assertEqual(run_by_tables(ODD, program), due)
            with self.assertRaises(AssertionError):
                walked(ODD, program)
        with mock.patch("pairfolds.bounds.ways_of", side_effect=AssertionError):
            self.assertEqual(walked(ODD, program), due)

    def test_what_is_told_is_the_askers_own(self):
        for tell in TELLING:
            stays_as_told(self, tell, ODD, (("string", "ab"), ("least",), ("count",)))

    def test_plain_kinds(self):
        program = (("string", "ab"), ("least",), ("has", 0, 1), ("letter", 5, "a"))
        for tell in TELLING:
            self.assertEqual(kinds_in(tell(ODD, program)), {list, int, bool, str})

    def test_names(self):
        for tell, file in ((walked, walker_file), (run_by_tables, machine_file)):
            self.assertEqual(names_of(tell), (["rules", "program"], {}))
            self.assertEqual(tell.__module__, file.__name__)


if __name__ == "__main__":
    unittest.main()
