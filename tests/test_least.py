import unittest

from pairfolds import least as least_file
from pairfolds.errors import NoString
from pairfolds.least import least_folding, least_worth, table_of
from pairfolds.rules import rules_of
from tests.helper import ALL_RULES, CHEAP, DEAR, FORKING, NO_PAIRS, ODD, ONE_LETTER, SPANNED, WIDE
from tests.helper import all_rows, ask_both_ways, every_folding, names_of, plain_table, plain_worth
from tests.helper import refuses_no_string, some_texts, strings_for

TELLING = (table_of, least_worth, least_folding)
LONG = (
    (ODD, "abacbaabcbab"), (ODD, "cccbaabbaabb"), (SPANNED, "abacabcbabcb"), (SPANNED, "aabbccbbaacb"),
    (WIDE, "abababababab"), (WIDE, "aaabbbaaabbb"), (NO_PAIRS, "abababababab"), (FORKING, "aababbbabbbb"),
    (DEAR, "aabbabbbabbb"), (CHEAP, "aabbaabbaabb"), (ONE_LETTER, "aaaaaaaaaa"),
)
TABLE_OF_AB = [
    ("one", 0, 0, None), ("one", 0, 1, -32), ("one", 1, 1, None), ("open", 0, 1, -14), ("open", 1, 1, 0), ("open", 2, 1, 0),
    ("shut", 0, 1, -13), ("two", 0, 0, None), ("two", 0, 1, None), ("two", 1, 1, None),
]


class TableTest(unittest.TestCase):

    def test_no_letters(self):
        for rules in ALL_RULES:
            self.assertEqual(table_of(rules, ""), [("open", 0, -1, 0)])

    def test_one_letter(self):
        told = [("one", 0, 0, None), ("open", 0, 0, 0), ("open", 1, 0, 0), ("two", 0, 0, None)]
        self.assertEqual(table_of(ODD, "a"), told)

    def test_by_hand(self):
        self.assertEqual(ask_both_ways(self, table_of, rules=ODD, string="ab"), TABLE_OF_AB)

    def test_by_lists(self):
        for rules in ALL_RULES:
            for string in strings_for(rules):
                self.assertEqual(table_of(rules, string), plain_table(rules, string), (rules, string))

    def test_forks_within_forks(self):
        for rules, string in ((ODD, "aababaabb"), (FORKING, "aabaabbb"), (ONE_LETTER, "aaaaaaaa"), (CHEAP, "aababbab")):
            self.assertEqual(table_of(rules, string), plain_table(rules, string), (rules, string))

    def test_all_rows_rising(self):
        for rules, string in LONG:
            self.assertEqual([row[:3] for row in table_of(rules, string)], all_rows(len(string)))

    def test_what_is_told_is_the_askers_own(self):
        told = table_of(ODD, "ab")
        told[0] = None
        told.clear()
        self.assertEqual(table_of(ODD, "ab"), TABLE_OF_AB)
        self.assertEqual(least_worth(ODD, "ab"), -14)


class LeastTest(unittest.TestCase):

    def holds_least(self, rules, string):
        listed = every_folding(rules, string)
        least = min(plain_worth(rules, string, folding) for folding in listed)
        self.assertEqual(least_worth(rules, string), least, (rules, string))
        told = least_folding(rules, string)
        self.assertIsInstance(told, tuple)
        self.assertIn(told, listed, (rules, string))
        self.assertEqual(plain_worth(rules, string, told), least, (rules, string))
        self.assertEqual(least_folding(rules, string), told)

    def test_by_lists(self):
        for rules in ALL_RULES:
            for string in strings_for(rules):
                self.holds_least(rules, string)

    def test_eight_letters_by_lists(self):
        for rules in ALL_RULES:
            for string in some_texts(rules[0], 8, 6):
                self.holds_least(rules, string)

    def test_up_to_twelve_letters_by_lists(self):
        for rules, string in LONG:
            self.holds_least(rules, string)

    def test_twelve_like_letters(self):
        rules = rules_of("a", pairs=(("aa", -2),), loops=(-1, 0, 0, 0, 0, 0, 0, 0, 0))
        self.assertEqual(least_worth(rules, "a" * 12), -17)
        self.assertEqual(least_folding(rules, "a" * 12), tuple((at, 11 - at) for at in range(6)))

    def test_no_pairs_are_worth_nothing(self):
        self.assertEqual(ask_both_ways(self, least_worth, rules=NO_PAIRS, string="abab"), 0)
        self.assertEqual(ask_both_ways(self, least_folding, rules=NO_PAIRS, string="abab"), ())
        self.assertEqual(least_worth(DEAR, "ababab"), 0)
        self.assertEqual(least_folding(DEAR, "ababab"), ())
        self.assertEqual(least_worth(ODD, ""), 0)
        self.assertEqual(least_folding(ODD, ""), ())

    def test_no_string(self):
        for tell in TELLING:
            refuses_no_string(self, tell, NoString)

    def test_names(self):
        for tell in TELLING:
            self.assertEqual(names_of(tell), (["rules", "string"], {}))
            self.assertEqual(tell.__module__, least_file.__name__)


if __name__ == "__main__":
    unittest.main()
