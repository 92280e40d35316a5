import fractions
import unittest

from pairfolds import weights as weights_file
from pairfolds.errors import NoString
from pairfolds.rules import rules_of
from pairfolds.weights import free_shares, pair_shares, weight
from tests.helper import ALL_RULES, EIGHT, FORKING, ODD, ONE_LETTER, SPANNED
from tests.helper import as_share, ask_both_ways, kinds_in, listed_with_worths, names_of, refuses_no_string
from tests.helper import some_texts, stays_as_told, strings_for

TELLING = (weight, pair_shares, free_shares)
BASES = ((1, 1), (2, 1), (1, 2), (3, 2), (5, 7), (99, 100), (9999, 1000), (7, 9998))


def plain_weights(rules, string, base):
    """(weight, pair shares, free shares) by a list of all foldings."""
    rows = [(fractions.Fraction(*base) ** worth, folding) for worth, folding in listed_with_worths(rules, string)]
    total = sum(weighs for weighs, folding in rows)
    pairs, free = {}, [fractions.Fraction(0)] * len(string)
    for weighs, folding in rows:
        for pair in folding:
            pairs[pair] = pairs.get(pair, 0) + weighs
        for place in range(len(string)):
            if not any(place in pair for pair in folding):
                free[place] += weighs
    shares = [pair + (as_share(pairs[pair] / total),) for pair in sorted(pairs)]
    return as_share(total), shares, [as_share(part / total) for part in free]


class WeightsTest(unittest.TestCase):

    def holds_weights(self, rules, string, base):
        told = (
            weight(rules, string, base=base), pair_shares(rules, string, base=base),
            free_shares(rules, string, base=base),
        )
        self.assertEqual(told, plain_weights(rules, string, base), (rules, string, base))
        self.come_to_one(string, told[1], told[2])

    def come_to_one(self, string, pairs, free):
        self.assertEqual(len(free), len(string))
        for place in range(len(string)):
            shares = [fractions.Fraction(*share) for i, j, share in pairs if place in (i, j)]
            self.assertEqual(sum(shares) + fractions.Fraction(*free[place]), 1)

    def test_by_lists(self):
        for rules in ALL_RULES:
            for at, string in enumerate(strings_for(rules)):
                for base in BASES[:3] if at % 7 else BASES[:6]:
                    self.holds_weights(rules, string, base)

    def test_eight_letters_by_lists(self):
        for rules, string in EIGHT:
            for base in ((1, 1), (3, 2), (5, 7)):
                self.holds_weights(rules, string, base)

    def test_bases_of_four_figures(self):
        for rules, string in ((ODD, "abab"), (SPANNED, "abacab"), (ONE_LETTER, "aaaaa"), (FORKING, "aabb")):
            for base in BASES + ((9999, 9998), (1, 9999), (9999, 1)):
                self.holds_weights(rules, string, base)

    def test_more_strings_of_eight_letters(self):
        for rules in ALL_RULES:
            for string in some_texts(rules[0], 8, 2):
                self.holds_weights(rules, string, (2, 3))

    def test_base_left_out(self):
        for rules, string in EIGHT:
            for tell in TELLING:
                self.assertEqual(tell(rules, string), tell(rules, string, base=(1, 1)))
            listed = listed_with_worths(rules, string)
            self.assertEqual(weight(rules, string), (len(listed), 1))
            for i, j, share in pair_shares(rules, string):
                many = sum((i, j) in folding for worth, folding in listed)
                self.assertEqual(share, as_share(fractions.Fraction(many, len(listed))))

    def test_by_hand(self):
        rules = rules_of("ab", pairs=(("ab", -2),))
        for string, base, total, pairs, free in (
            ("", (3, 1), (1, 1), [], []),
            ("a", (3, 1), (1, 1), [], [(1, 1)]),
            ("ba", (3, 1), (1, 1), [], [(1, 1), (1, 1)]),
            ("ab", (1, 1), (2, 1), [(0, 1, (1, 2))], [(1, 2), (1, 2)]),
            ("ab", (3, 1), (10, 9), [(0, 1, (1, 10))], [(9, 10), (9, 10)]),
            ("ab", (1, 3), (10, 1), [(0, 1, (9, 10))], [(1, 10), (1, 10)]),
            ("ab", (2, 3), (13, 4), [(0, 1, (9, 13))], [(4, 13), (4, 13)]),
            ("aab", (1, 2), (9, 1), [(0, 2, (4, 9)), (1, 2, (4, 9))], [(5, 9), (5, 9), (1, 9)]),
        ):
            handed = {"rules": rules, "string": string, "base": base}
            self.assertEqual(ask_both_ways(self, weight, **handed), total)
            self.assertEqual(ask_both_ways(self, pair_shares, **handed), pairs)
            self.assertEqual(ask_both_ways(self, free_shares, **handed), free)

    def test_worths_above_nought(self):
        rules = rules_of("ab", pairs=(("ab", 3),), loops=(0, 0, 0, 0, 0, 0, 0, 0, 1))
        self.assertEqual(weight(rules, "ab", base=(2, 1)), (17, 1))
        self.assertEqual(weight(rules, "ab", base=(1, 2)), (17, 16))
        self.assertEqual(pair_shares(rules, "ab", base=(1, 2)), [(0, 1, (1, 17))])
        self.assertEqual(free_shares(rules, "ab", base=(2, 1)), [(1, 17), (1, 17)])

    def test_no_string(self):
        for tell in TELLING:
            refuses_no_string(self, tell, NoString)
            refuses_no_string(self, lambda rules, string: tell(rules, string, base=(2, 3)), NoString)

    def test_what_is_told_is_the_askers_own(self):
        for tell in (pair_shares, free_shares):
            stays_as_told(self, tell, ODD, "aabb", base=(2, 1))
            stays_as_told(self, tell, ODD, "aabb")

    def test_plain_kinds(self):
        for tell in TELLING:
            self.assertEqual(kinds_in(tell(ODD, "aabb", base=(2, 3))) - {list}, {tuple, int})
        self.assertIs(type(pair_shares(ODD, "")), list)
        self.assertIs(type(free_shares(ODD, "")), list)

    def test_names(self):
        for tell in TELLING:
            self.assertEqual(names_of(tell), (["rules", "string"], {"base": (1, 1)}))
            self.assertEqual(tell.__module__, weights_file.__name__)
            with self.assertRaises(TypeError):
                tell(ODD, "ab", (1, 1))


if __name__ == "__main__":
    unittest.main()
