import unittest

from pairfolds import strings as strings_file
from pairfolds.errors import FoldError, NoString
from pairfolds.rules import rules_of
from pairfolds.strings import is_string, may_pair, need_string
from tests.helper import ALL_RULES, ODD, WHATEVER, all_texts, ask_both_ways, can_pair, names_of, strings_for

STRINGS = ("", "a", "b", "c", "abc", "cab", "aaaaaaaaaaaa", "abcabcabcabc", "cccccccccccb")
NO_STRINGS = WHATEVER + (
    "d", "abd", "A", "aB", "a b", "a" * 13, "abcabcabcabca", " ", "ab\n", "\u00e9", ["a", "b"], ("a", "b"), [], {}, (),
    None, 0, 5, True, ["abc"], ("abc",), {"a": "b"}, "a" * 4999,
)


class IsStringTest(unittest.TestCase):

    def test_strings(self):
        for string in STRINGS:
            self.assertIs(ask_both_ways(self, is_string, rules=ODD, thing=string), True, string)
            self.assertIsNone(ask_both_ways(self, need_string, rules=ODD, thing=string))

    def test_none(self):
        for thing in NO_STRINGS:
            self.assertIs(is_string(ODD, thing), False, thing)
            with self.assertRaises(NoString) as caught:
                need_string(ODD, thing)
            self.assertIsInstance(caught.exception, FoldError)

    def test_none_by_name(self):
        with self.assertRaises(NoString):
            need_string(rules=ODD, thing="abd")

    def test_none_to_twelve_letters(self):
        rules = rules_of("x")
        for length in range(20):
            self.assertIs(is_string(rules, "x" * length), length <= 12, length)

    def test_by_the_letters_of_the_rules(self):
        self.assertIs(is_string(rules_of("xz"), "xzx"), True)
        self.assertIs(is_string(rules_of("xz"), "xyz"), False)
        self.assertIs(is_string(rules_of("xz"), "abc"), False)


class MayPairTest(unittest.TestCase):

    def test_the_order_of_the_letters(self):
        rules = rules_of("ab", pairs=(("ab", 0),))
        self.assertIs(may_pair(rules, "ab", 0, 1), True)
        self.assertIs(may_pair(rules, "ba", 0, 1), False)
        self.assertIs(may_pair(rules, "aa", 0, 1), False)
        self.assertIs(may_pair(rules, "ba", 1, 0), False)

    def test_a_worth_of_any_sign(self):
        for worth in (-99, -1, 0, 1, 99):
            self.assertIs(may_pair(rules_of("a", pairs=(("aa", worth),)), "aa", 0, 1), True)

    def test_span(self):
        for span in range(4):
            rules = rules_of("a", pairs=(("aa", 1),), span=span)
            for j in range(1, 7):
                self.assertIs(may_pair(rules, "aaaaaaa", 0, j), j - 1 >= span, (span, j))
                self.assertIs(may_pair(rules, "aaaaaaaa", 1, j + 1), j - 1 >= span, (span, j))

    def test_the_lesser_place_comes_first(self):
        rules = rules_of("a", pairs=(("aa", 1),))
        for i in range(4):
            for j in range(4):
                self.assertIs(may_pair(rules, "aaaa", i, j), i < j, (i, j))

    def test_all_places(self):
        for rules in ALL_RULES:
            for string in strings_for(rules) + all_texts(rules[0], 5)[:20]:
                for i in range(len(string)):
                    for j in range(i + 1, len(string)):
                        told = may_pair(rules, string, i, j)
                        self.assertIs(told, can_pair(rules, string, i, j), (rules, string, i, j))

    def test_by_places_and_by_names(self):
        self.assertIs(ask_both_ways(self, may_pair, rules=ODD, string="cab", i=0, j=2), True)
        self.assertIs(ask_both_ways(self, may_pair, rules=ODD, string="cab", i=0, j=1), False)

    def test_names(self):
        self.assertEqual(names_of(is_string), (["rules", "thing"], {}))
        self.assertEqual(names_of(need_string), (["rules", "thing"], {}))
        self.assertEqual(names_of(may_pair), (["rules", "string", "i", "j"], {}))
        for function in (is_string, need_string, may_pair):
            self.assertEqual(function.__module__, strings_file.__name__)


if __name__ == "__main__":
    unittest.main()
