import unittest

from pairfolds import near as near_file
from pairfolds.errors import NoString
from pairfolds.near import gap, how_near, kinds, near
from pairfolds.rules import rules_of
from tests.helper import ALL_RULES, FORKING, ODD, ONE_LETTER, SPANNED, TEN
from tests.helper import ask_both_ways, kinds_in, listed_with_worths, names_of, plain_loop, refuses_no_string
from tests.helper import some_texts, stays_as_told, strings_for

TELLING = (near, how_near, kinds)


def plain_kinds(rules, string, rows):
    """The first folding of each kind of loops among rows in their order."""
    met, firsts = [], []
    for worth, folding in rows:
        loops = sorted(plain_loop(rules, string, folding, pair)[:2] for pair in folding)
        if loops not in met:
            met.append(loops)
            firsts.append(folding)
    return firsts


class NearTest(unittest.TestCase):

    def holds_near(self, rules, string, *mores):
        listed = listed_with_worths(rules, string)
        least = listed[0][0]
        for more in mores:
            rows = [row for row in listed if row[0] <= least + more]
            self.assertEqual(near(rules, string, more=more), rows, (rules, string, more))
            self.assertEqual(how_near(rules, string, more=more), len(rows), (rules, string, more))
            self.assertEqual(kinds(rules, string, more=more), plain_kinds(rules, string, rows), (rules, string, more))
        above = [worth for worth, folding in listed if worth > least]
        self.assertEqual(gap(rules, string), min(above) if above else None, (rules, string))

    def test_by_lists(self):
        for rules in ALL_RULES:
            for string in strings_for(rules):
                self.holds_near(rules, string, 0, 1, 14, 15, 1000)

    def test_each_worth_and_one_less(self):
        for rules in (ODD, SPANNED, ONE_LETTER, FORKING):
            for string in some_texts(rules[0], 6, 3):
                worths = {worth for worth, folding in listed_with_worths(rules, string)}
                mores = {worth - min(worths) for worth in worths}
                self.holds_near(rules, string, *sorted(mores | {more - 1 for more in mores if more > 0}))

    def test_ten_letters_by_lists(self):
        for rules, string in TEN:
            self.holds_near(rules, string, 0, 20, 10 ** 99)

    def test_more_left_out(self):
        for rules, string in TEN:
            for tell in TELLING:
                self.assertEqual(tell(rules, string), tell(rules, string, more=0))

    def test_by_hand(self):
        rules = rules_of("ab", pairs=(("aa", 2), ("ab", -2), ("ba", -1)))
        for string, more, rows, others, above in (
            ("", 0, [(0, ())], [()], None),
            ("a", 9, [(0, ())], [()], None),
            ("bb", 9, [(0, ())], [()], None),
            ("aa", 0, [(0, ())], [()], 2),
            ("aa", 2, [(0, ()), (2, ((0, 1),))], [(), ((0, 1),)], 2),
            ("ab", 0, [(-2, ((0, 1),))], [((0, 1),)], 0),
            ("ab", 1, [(-2, ((0, 1),))], [((0, 1),)], 0),
            ("ab", 2, [(-2, ((0, 1),)), (0, ())], [((0, 1),), ()], 0),
            ("abb", 0, [(-2, ((0, 1),)), (-2, ((0, 2),))], [((0, 1),), ((0, 2),)], 0),
            ("aba", 1, [(-2, ((0, 1),)), (-1, ((1, 2),))], [((0, 1),)], -1),
            ("aabb", 0, [(-4, ((0, 3), (1, 2)))], [((0, 3), (1, 2))], -2),
        ):
            handed = {"rules": rules, "string": string, "more": more}
            self.assertEqual(ask_both_ways(self, near, **handed), rows, string)
            self.assertEqual(ask_both_ways(self, how_near, **handed), len(rows), string)
            self.assertEqual(ask_both_ways(self, kinds, **handed), others, string)
            self.assertEqual(ask_both_ways(self, gap, rules=rules, string=string), above, string)

    def test_the_gap_is_a_worth_itself(self):
        rules = rules_of("ab", pairs=(("ab", -30),), loops=(0, 0, 0, 0, 0, 0, 0, 10, 0))
        self.assertEqual(near(rules, "aab", more=99), [(-30, ((1, 2),)), (-20, ((0, 2),)), (0, ())])
        self.assertEqual(gap(rules, "aab"), -20)

    def test_all_of_one_worth(self):
        rules = rules_of("a", pairs=(("aa", 0),))
        self.assertIsNone(gap(rules, "aaaaaaaa"))
        self.assertEqual(how_near(rules, "aaaaaaaa"), 323)

    def test_no_string(self):
        for tell in TELLING:
            refuses_no_string(self, tell, NoString)
            refuses_no_string(self, lambda rules, string: tell(rules, string, more=3), NoString)
        refuses_no_string(self, gap, NoString)

    def test_what_is_told_is_the_askers_own(self):
        for tell in (near, kinds):
            stays_as_told(self, tell, ODD, "aabb", more=30)
            stays_as_told(self, tell, ODD, "aabb")

    def test_plain_kinds(self):
        self.assertEqual(kinds_in(near(ODD, "aabb", more=99)), {list, tuple, int})
        self.assertEqual(kinds_in(kinds(ODD, "aabb", more=99)), {list, tuple, int})
        self.assertIs(type(how_near(ODD, "aabb")), int)
        self.assertIs(type(gap(ODD, "aabb")), int)

    def test_names(self):
        for tell in TELLING:
            self.assertEqual(names_of(tell), (["rules", "string"], {"more": 0}))
            with self.assertRaises(TypeError):
                tell(ODD, "ab", 0)
        self.assertEqual(names_of(gap), (["rules", "string"], {}))
        for tell in TELLING + (gap,):
            self.assertEqual(tell.__module__, near_file.__name__)


if __name__ == "__main__":
    unittest.main()
