import itertools
import unittest

from pairfolds import foldings as foldings_file
from pairfolds.foldings import brackets, is_folding, pairs_in
from pairfolds.rules import rules_of
from tests.helper import ALL_RULES, WHATEVER, ask_both_ways, can_pair, every_folding, names_of, strings_for

EASY = rules_of("ab", pairs=(("aa", 1), ("ab", 0), ("ba", -1), ("bb", 2)))
FAR = rules_of("ab", pairs=(("ab", 1),), span=2)
NO_FOLDINGS = (
    ((1, 0),), ((0, 0),), ((0, 6),), ((-1, 2),), ((0, 10 ** 99),), ((-10 ** 99, 1),), ((False, 1),), ((0, True),),
    ((False, True),), ((0, 1), (2, True)), ((0, 1), (0, 1)), ((2, 3), (0, 1)), ((0, 3), (1, 2), (4,)), ((0, 1), 2, 3),
    ((0, 1), (1, 2)), ((0, 2), (2, 4)), ((0, 3), (0, 2)), ((0, 2), (0, 3)), ((0, 3), (1, 3)), ((0, 2), (1, 3)),
    ((0, 5), (1, 3), (2, 4)), ((0, 4), (1, 5)), ((0, 1), (2, 4), (3, 5)), ((0, 3), (2, 5)), ((0, 1, 2),), ((0,),),
    ((),), (0, 1), [(0, 1)], [], ([0, 1],), ((0, "1"),), (("0", "1"),), ((0, None),), ((None, None),), (((0, 1),),),
    {}, {(0, 1): 1}, "(())..", "......", "", None, True, 0, ((0, (1,)),), ((0, [1]),), (({}, 1),), ((0, 1), ()),
    ((0, 1), None), (None, (0, 1)), ((0, 1), [2, 3]), ((0, 1), (4, 3)),
)


class IsFoldingTest(unittest.TestCase):

    def test_no_pairs(self):
        for rules in ALL_RULES:
            self.assertIs(ask_both_ways(self, is_folding, rules=rules, string="", thing=()), True)
            self.assertIs(is_folding(rules, "aaaa", ()), True)

    def test_foldings(self):
        for folding in (((0, 1),), ((0, 5), (1, 4), (2, 3)), ((0, 1), (2, 3), (4, 5)), ((0, 5), (1, 2), (3, 4)), ((2, 3),)):
            self.assertIs(ask_both_ways(self, is_folding, rules=EASY, string="abbaab", thing=folding), True, folding)

    def test_none(self):
        for thing in NO_FOLDINGS + WHATEVER:
            self.assertIs(is_folding(EASY, "abbaab", thing), False, thing)

    def test_each_set_of_pairs_in_each_order(self):
        for rules in ALL_RULES:
            for string in ("ab", "aab", "abab", "aabb", "baab"):
                if set(string) <= set(rules[0]):
                    self.each_tuple_of_pairs(rules, string)

    def each_tuple_of_pairs(self, rules, string):
        pairs = list(itertools.product(range(-1, len(string) + 1), repeat=2))
        listed = every_folding(rules, string)
        for size in (1, 2):
            for thing in itertools.product(pairs, repeat=size):
                self.assertIs(is_folding(rules, string, thing), thing in listed, (string, thing))

    def test_what_is_listed(self):
        for rules in ALL_RULES:
            for string in strings_for(rules):
                for folding in every_folding(rules, string):
                    self.assertIs(is_folding(rules, string, folding), True, (string, folding))

    def test_those_that_may_not_pair(self):
        self.assertIs(is_folding(FAR, "aabb", ((0, 3),)), True)
        self.assertIs(is_folding(FAR, "aabb", ((0, 2),)), False)
        self.assertIs(is_folding(FAR, "bbaa", ((0, 3),)), False)
        self.assertIs(is_folding(FAR, "aabb", ((0, 3), (1, 2))), False)

    def test_pairs_of_places_that_may(self):
        for i, j in itertools.product(range(6), repeat=2):
            self.assertIs(is_folding(FAR, "abaabb", ((i, j),)), can_pair(FAR, "abaabb", i, j))


class BracketsTest(unittest.TestCase):

    def test_written(self):
        written = (
            ("", (), ""), ("abc", (), "..."), ("ab", ((0, 1),), "()"), ("abab", ((0, 3), (1, 2)), "(())"),
            ("abab", ((0, 1), (2, 3)), "()()"), ("aabab", ((1, 4), (2, 3)), ".(())"), ("abcba", ((0, 2),), "(.).."),
            ("aaaaaaa", ((0, 6), (1, 2), (4, 5)), "(().())"),
        )
        for string, folding, text in written:
            self.assertEqual(ask_both_ways(self, brackets, string=string, folding=folding), text)
            self.assertEqual(ask_both_ways(self, pairs_in, text=text), folding)

    def test_read_back(self):
        for rules in ALL_RULES:
            for string in strings_for(rules):
                listed = every_folding(rules, string)
                texts = [brackets(string, folding) for folding in listed]
                self.assertEqual([pairs_in(text) for text in texts], listed)
                self.assertEqual({len(text) for text in texts}, {len(string)})
                self.assertEqual(len(set(texts)), len(listed))

    def test_not_matched(self):
        for text in ("(", ")", ")(", "(()", "())", "()(", "())(", "...(", ").", "((.)", "(.))", "))", "((", ")()"):
            self.assertIsNone(pairs_in(text), text)

    def test_another_sign(self):
        for text in ("a", "(a)", "[]", "( )", " ", "()\n", "().x", "-", "{}", "(.]", "\u00b7", "((b))", "x()", "(,)"):
            self.assertIsNone(pairs_in(text), text)

    def test_rising(self):
        self.assertEqual(pairs_in("((()))."), ((0, 5), (1, 4), (2, 3)))
        self.assertEqual(pairs_in("(()(()))"), ((0, 7), (1, 2), (3, 6), (4, 5)))
        self.assertEqual(pairs_in("()" * 20), tuple((at, at + 1) for at in range(0, 40, 2)))
        self.assertEqual(pairs_in(""), ())
        self.assertEqual(pairs_in("...."), ())

    def test_names(self):
        self.assertEqual(names_of(is_folding), (["rules", "string", "thing"], {}))
        self.assertEqual(names_of(brackets), (["string", "folding"], {}))
        self.assertEqual(names_of(pairs_in), (["text"], {}))
        for function in (is_folding, brackets, pairs_in):
            self.assertEqual(function.__module__, foldings_file.__name__)


if __name__ == "__main__":
    unittest.main()
