import unittest

from pairfolds import numbers as numbers_file
from pairfolds.errors import FoldError, NoFolding, NoNumber, NoString
from pairfolds.numbers import folding_of, number_of
from pairfolds.rules import rules_of
from tests.helper import ALL_RULES, ODD, SPANNED, TEN, WHATEVER
from tests.helper import ask_both_ways, every_folding, kinds_in, names_of, refuses_no_string, some_texts, strings_for

NO_NUMBERS = (
    -1, -2, 10 ** 99, -10 ** 99, 10 ** 100 - 1, True, False, None, "", "0", "1", (), (0,), [], [0], {}, {0: 0}, ((0, 1),),
)
# Of the string "abab" by ODD, where each of these looks much like a folding.
NO_FOLDINGS = (
    [], [(0, 1)], ([0, 1],), ((0, 1), (0, 1)), ((2, 3), (0, 1)), ((0, 3), (0, 1)), ((0, 2), (1, 3)), ((1, 0),),
    ((0, 0),), ((1, 1),), ((0, 4),), ((-1, 1),), ((3, 4),), ((False, True),), ((0, True),), ((0, 1, 2),), ((0,),),
    (0, 1), ((0, 1), None), ((0, "1"),), "()()", "....", None, True, 0, 5, {}, {(0, 1): 0}, ((0, 10 ** 99),),
)


class NumbersTest(unittest.TestCase):

    def holds_numbers(self, rules, string):
        listed = every_folding(rules, string)
        for number, folding in enumerate(listed):
            self.assertEqual(folding_of(rules, string, number), folding, (rules, string, number))
            self.assertEqual(number_of(rules, string, folding), number, (rules, string, folding))
        for number in (-1, len(listed), len(listed) + 1):
            with self.assertRaises(NoNumber):
                folding_of(rules, string, number)

    def test_by_lists(self):
        for rules in ALL_RULES:
            for string in strings_for(rules):
                self.holds_numbers(rules, string)

    def test_eight_letters_by_lists(self):
        for rules in ALL_RULES:
            for string in some_texts(rules[0], 8, 3):
                self.holds_numbers(rules, string)

    def test_ten_letters_by_lists(self):
        for rules, string in TEN:
            self.holds_numbers(rules, string)

    def test_ten_like_letters(self):
        for span, many in ((0, 2188), (1, 423), (2, 146), (3, 65)):
            rules = rules_of("a", pairs=(("aa", 0),), span=span)
            told = [folding_of(rules, "a" * 10, number) for number in range(many)]
            self.assertEqual(told, every_folding(rules, "a" * 10))
            self.assertEqual([number_of(rules, "a" * 10, folding) for folding in told], list(range(many)))
            with self.assertRaises(NoNumber):
                folding_of(rules, "a" * 10, many)

    def test_by_hand(self):
        for string, foldings in (
            ("", [()]),
            ("c", [()]),
            ("ab", [(), ((0, 1),)]),
            ("aab", [(), ((0, 1),), ((0, 2),), ((1, 2),)]),
            ("abab", [
                (), ((0, 1),), ((0, 1), (2, 3)), ((0, 2),), ((0, 3),), ((0, 3), (1, 2)), ((1, 2),), ((2, 3),),
            ]),
        ):
            for number, folding in enumerate(foldings):
                self.assertEqual(ask_both_ways(self, folding_of, rules=ODD, string=string, number=number), folding)
                self.assertEqual(ask_both_ways(self, number_of, rules=ODD, string=string, folding=folding), number)
            with self.assertRaises(NoNumber):
                folding_of(ODD, string, len(foldings))

    def test_no_number(self):
        for string in ("", "abab", "abacbaabcb"):
            for thing in NO_NUMBERS:
                with self.assertRaises(NoNumber):
                    folding_of(ODD, string, thing)
            with self.assertRaises(NoNumber):
                folding_of(rules=ODD, string=string, number=None)

    def test_no_number_is_no_fold_error(self):
        with self.assertRaises(IndexError) as caught:
            folding_of(ODD, "ab", 2)
        self.assertNotIsInstance(caught.exception, FoldError)

    def test_no_folding(self):
        for thing in NO_FOLDINGS + WHATEVER:
            with self.assertRaises(NoFolding):
                number_of(ODD, "abab", thing)
        with self.assertRaises(NoFolding):
            number_of(ODD, "", ((0, 1),))
        with self.assertRaises(NoFolding):
            number_of(rules=SPANNED, string="ab", folding=((0, 1),))

    def test_no_string_goes_first(self):
        for last in (0, -1, None, "x", ()):
            refuses_no_string(self, lambda rules, string: folding_of(rules, string, last), NoString)
            refuses_no_string(self, lambda rules, string: number_of(rules, string, last), NoString)

    def test_plain_kinds(self):
        self.assertEqual(kinds_in(folding_of(ODD, "aabb", 3)), {tuple, int})
        self.assertIs(type(number_of(ODD, "aabb", ())), int)

    def test_names(self):
        self.assertEqual(names_of(folding_of), (["rules", "string", "number"], {}))
        self.assertEqual(names_of(number_of), (["rules", "string", "folding"], {}))
        for tell in (folding_of, number_of):
            self.assertEqual(tell.__module__, numbers_file.__name__)


if __name__ == "__main__":
    unittest.main()
