import unittest

from pairfolds import ridges as ridges_file
from pairfolds.ridges import lets_way, ridge, steps_from
from pairfolds.rules import rules_of
from tests.helper import ALL_RULES, EIGHT, ODD, ONE_LETTER, SPANNED, WHATEVER
from tests.helper import Land, are_a_step_apart, ask_both_ways, every_folding, kinds_in, names_of, some_pairs
from tests.helper import some_texts, stays_as_told, strings_for


class StepsTest(unittest.TestCase):

    def test_by_lists(self):
        for rules in ALL_RULES:
            for string in strings_for(rules):
                land = Land(rules, string)
                for folding in land.foldings:
                    self.assertEqual(steps_from(rules, string, folding), land.steps[folding], (rules, string, folding))

    def test_eight_letters_by_lists(self):
        for rules, string in EIGHT:
            land = Land(rules, string)
            for folding in land.foldings:
                self.assertEqual(steps_from(rules, string, folding), land.steps[folding], (rules, string, folding))

    def test_by_hand(self):
        for string, folding, steps in (
            ("", (), []), ("c", (), []), ("ab", (), [((0, 1),)]), ("ab", ((0, 1),), [()]),
            ("abab", ((0, 3),), [(), ((0, 3), (1, 2))]),
            ("abab", (), [((0, 1),), ((0, 2),), ((0, 3),), ((1, 2),), ((2, 3),)]),
        ):
            self.assertEqual(ask_both_ways(self, steps_from, rules=ODD, string=string, folding=folding), steps)

    def test_what_is_told_is_the_askers_own(self):
        stays_as_told(self, steps_from, ODD, "abab", ())

    def test_plain_kinds(self):
        self.assertEqual(kinds_in(steps_from(ODD, "abab", ())), {list, tuple, int})


class RidgeTest(unittest.TestCase):

    def holds_ridge(self, land, folding, other):
        rules, string = land.rules, land.string
        told = ask_both_ways(self, ridge, rules=rules, string=string, folding=folding, other=other)
        self.assertEqual((type(told), len(told)), (tuple, 2))
        height, way = told
        self.assertEqual(height, land.lowest_ridge(folding, other), (rules, string, folding, other))
        self.assertEqual(height, max(land.worths[met] for met in way))
        self.assertEqual((type(way), way[0], way[-1]), (list, folding, other))
        self.assertTrue(all(are_a_step_apart(met, after) for met, after in zip(way, way[1:])), way)
        self.assertIs(lets_way(rules, string, folding, other, way), True)
        if folding == other:
            self.assertEqual(told, (land.worths[folding], [folding]))

    def test_all_pairs_of_foldings(self):
        for rules in ALL_RULES:
            for string in some_texts(rules[0], 4, 3) + some_texts(rules[0], 5, 2) + ["", rules[0][0]]:
                land = Land(rules, string)
                for folding in land.foldings:
                    for other in land.foldings:
                        self.holds_ridge(land, folding, other)

    def test_eight_letters(self):
        for rules, string in EIGHT:
            land = Land(rules, string)
            for folding, other in some_pairs(land.foldings, 12):
                self.holds_ridge(land, folding, other)

    def test_by_hand(self):
        rules = rules_of("ab", pairs=(("ab", -3), ("ba", 2)))
        for string, folding, other, told in (
            ("", (), (), (0, [()])),
            ("ab", (), ((0, 1),), (0, [(), ((0, 1),)])),
            ("ab", ((0, 1),), ((0, 1),), (-3, [((0, 1),)])),
            ("ba", (), ((0, 1),), (2, [(), ((0, 1),)])),
            ("abb", ((0, 1),), ((0, 2),), (0, [((0, 1),), (), ((0, 2),)])),
        ):
            self.assertEqual(ridge(rules, string, folding, other), told)

    def test_the_same_one_each_time(self):
        for rules, string in EIGHT[:3]:
            foldings = every_folding(rules, string)
            first = ridge(rules, string, foldings[1], foldings[-1])
            kept = list(first[1])
            first[1].append(None)
            first[1][0] = 5
            self.assertEqual(ridge(rules, string, foldings[1], foldings[-1])[1], kept)

    def test_plain_kinds(self):
        self.assertEqual(kinds_in(ridge(ODD, "abab", ((0, 1),), ((0, 3),))), {list, tuple, int})

    def test_names(self):
        self.assertEqual(names_of(steps_from), (["rules", "string", "folding"], {}))
        self.assertEqual(names_of(ridge), (["rules", "string", "folding", "other"], {}))
        self.assertEqual(names_of(lets_way), (["rules", "string", "folding", "other", "thing"], {}))
        for tell in (steps_from, ridge, lets_way):
            self.assertEqual(tell.__module__, ridges_file.__name__)


class WayTest(unittest.TestCase):
    string = "abab"
    first = ((0, 1),)
    last = ((0, 3), (1, 2))
    way = [((0, 1),), (), ((1, 2),), ((0, 3), (1, 2))]

    def lets(self, thing, folding=first, other=last):
        handed = {"rules": ODD, "string": self.string, "folding": folding, "other": other, "thing": thing}
        told = ask_both_ways(self, lets_way, **handed)
        self.assertIs(type(told), bool)
        return told

    def test_ways_of_another_maker(self):
        for thing in (
            self.way, [((0, 1),), (), ((0, 3),), ((0, 3), (1, 2))],
            [((0, 1),), ((0, 1), (2, 3)), ((2, 3),), (), ((1, 2),), ((0, 3), (1, 2))],
            [((0, 1),), (), ((0, 1),), (), ((1, 2),), ((0, 3), (1, 2)), ((0, 3),), ((0, 3), (1, 2))],
        ):
            self.assertTrue(self.lets(thing), thing)
            self.assertTrue(self.lets(thing[::-1], self.last, self.first), thing)

    def test_no_ways(self):
        for thing in (
            [], tuple(self.way), self.way[:-1], self.way[1:], self.way[::-1], self.way + [((0, 3),)],
            [()] + self.way, self.way[:1] + self.way, self.way + self.way[-1:], self.way[:1] + self.way[2:],
            [self.first, self.last], [self.first], [self.last], [((0, 1),), (), ((0, 3), (1, 2))],
            [((0, 1),), ((1, 2),), ((0, 3), (1, 2))], [((0, 1),), (), ((1, 2),), ((1, 2), (0, 3))],
            [((0, 1),), [], ((1, 2),), ((0, 3), (1, 2))], [[(0, 1)], (), ((1, 2),), ((0, 3), (1, 2))],
            [((False, True),), (), ((1, 2),), ((0, 3), (1, 2))], [((0, 1),), (), ((True, 2),), ((0, 3), (1, 2))],
            [((0, 1),), ((0, 1), (1, 2)), ((1, 2),), ((0, 3), (1, 2))],
            [((0, 1),), (), ((1, 3),), ((1, 2),), ((0, 3), (1, 2))],
            [((0, 1),), (), ((1, 2),), ((1, 2), (1, 2)), ((0, 3), (1, 2))],
            [((0, 1),), (), None, ((0, 3), (1, 2))], [((0, 1),), (), "....", ((0, 3), (1, 2))], [self.way],
            {0: self.way}, (self.first, self.way), [((0, 1),), (), (), ((1, 2),), ((0, 3), (1, 2))],
        ) + WHATEVER:
            self.assertFalse(self.lets(thing), thing)

    def test_jumps(self):
        for rules, string in ((ODD, "abab"), (ONE_LETTER, "aaaa"), (SPANNED, "abcb")):
            land = Land(rules, string)
            for folding in land.foldings:
                for other in land.foldings:
                    told = lets_way(rules, string, folding, other, [folding, other])
                    self.assertIs(told, other in land.steps[folding])

    def test_from_a_folding_to_itself(self):
        for folding in every_folding(ODD, self.string):
            self.assertTrue(self.lets([folding], folding, folding))
            self.assertFalse(self.lets([], folding, folding))
            self.assertFalse(self.lets([folding, folding], folding, folding))
        self.assertTrue(self.lets([(), ((0, 1),), ()], (), ()))

    def test_whatever_of_no_letters(self):
        self.assertIs(lets_way(ODD, "", (), (), [()]), True)
        for thing in WHATEVER:
            self.assertIs(lets_way(ODD, "", (), (), thing), thing == [()])


if __name__ == "__main__":
    unittest.main()
