import collections
import unittest

from pairfolds import counts as counts_file
from pairfolds.counts import all_foldings, by_worths, how_many
from pairfolds.errors import NoString
from pairfolds.rules import rules_of
from tests.helper import ALL_RULES, ODD, TEN
from tests.helper import ask_both_ways, every_folding, names_of, plain_worth, refuses_no_string, some_texts
from tests.helper import strings_for

TELLING = (how_many, by_worths, all_foldings)


class CountsTest(unittest.TestCase):

    def holds_counts(self, rules, string):
        listed = every_folding(rules, string)
        worths = collections.Counter(plain_worth(rules, string, folding) for folding in listed)
        self.assertEqual(how_many(rules, string), len(listed), (rules, string))
        self.assertEqual(by_worths(rules, string), sorted(worths.items()), (rules, string))
        self.assertEqual(all_foldings(rules, string), listed, (rules, string))

    def test_by_lists(self):
        for rules in ALL_RULES:
            for string in strings_for(rules):
                self.holds_counts(rules, string)

    def test_eight_letters_by_lists(self):
        for rules in ALL_RULES:
            for string in some_texts(rules[0], 8, 3):
                self.holds_counts(rules, string)

    def test_ten_letters_by_lists(self):
        for rules, string in TEN:
            self.holds_counts(rules, string)

    def test_by_hand(self):
        for string, many, worths, foldings in (
            ("", 1, [(0, 1)], [()]),
            ("c", 1, [(0, 1)], [()]),
            ("ab", 2, [(-14, 1), (0, 1)], [(), ((0, 1),)]),
            ("aab", 4, [(-14, 1), (-11, 1), (0, 2)], [(), ((0, 1),), ((0, 2),), ((1, 2),)]),
        ):
            self.assertEqual(ask_both_ways(self, how_many, rules=ODD, string=string), many)
            self.assertEqual(ask_both_ways(self, by_worths, rules=ODD, string=string), worths)
            self.assertEqual(ask_both_ways(self, all_foldings, rules=ODD, string=string), foldings)

    def test_ten_like_letters(self):
        for span, many in ((0, 2188), (1, 423), (2, 146), (3, 65)):
            rules = rules_of("a", pairs=(("aa", 0),), span=span)
            self.assertEqual(how_many(rules, "a" * 10), many)
            self.assertEqual(by_worths(rules, "a" * 10), [(0, many)])
            told = all_foldings(rules, "a" * 10)
            self.assertEqual(len(told), many)
            self.assertEqual(told, sorted(set(told)))

    def test_what_is_told_is_the_askers_own(self):
        for tell in (by_worths, all_foldings):
            told = tell(ODD, "aabb")
            before = list(told)
            told.append(None)
            told[0] = 5
            self.assertEqual(tell(ODD, "aabb"), before)

    def test_plain_kinds(self):
        self.assertIs(type(how_many(ODD, "aabb")), int)
        for row in by_worths(ODD, "aabb"):
            self.assertEqual([type(row), type(row[0]), type(row[1])], [tuple, int, int])
        for folding in all_foldings(ODD, "aabb"):
            self.assertIs(type(folding), tuple)
            self.assertEqual({type(pair) for pair in folding} - {tuple}, set())

    def test_no_string(self):
        for tell in TELLING:
            refuses_no_string(self, tell, NoString)

    def test_names(self):
        for tell in TELLING:
            self.assertEqual(names_of(tell), (["rules", "string"], {}))
            self.assertEqual(tell.__module__, counts_file.__name__)


if __name__ == "__main__":
    unittest.main()
