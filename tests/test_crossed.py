import itertools
import random
import time
import unittest

from pairfolds import crossed as crossed_file
from pairfolds.crossed import all_crossed, crossed_worth, crossing_wins, is_crossed, least_crossed
from pairfolds.rules import rules_of
from tests.helper import ALL_RULES, FORKING, NO_PAIRS, ODD, ONE_LETTER, SPANNED, WHATEVER, WIDE
from tests.helper import ask_both_ways, can_pair, every_folding, kinds_in, names_of, plain_worth, some_rules, some_texts
from tests.helper import stays_as_told

TELLING = (all_crossed, least_crossed, crossing_wins)
LIKE = ("a", (("aa", -1),), 0, (-3, 1, 0, 2, 0, 0, 3, 0, 0), ())
AB = rules_of("ab", pairs=(("aa", -5), ("ab", -3), ("ba", 2), ("bb", -7)), loops=(-1, 0, 0, 0, 0, 0, 0, 0, 0), stacks=(
    ("aa", "bb", -11), ("ab", "ab", 13), ("ba", "ab", 17),
))


def pairs_of(stretch):
    return [(stretch[0] + at, stretch[1] - at) for at in range(stretch[2])]


def plain_stretches(rules, string):
    places = range(len(string))
    sizes = range(1, len(string) + 1)
    all_sizes = [(i, j, size) for i in places for j in places for size in sizes]
    return [stretch for stretch in all_sizes if all(can_pair(rules, string, i, j) for i, j in pairs_of(stretch))]


def plain_cross(stretch, other):
    """Whether each pair of the one crosses each of the other."""
    return all(i < p < j < q for i, j in pairs_of(stretch) for p, q in pairs_of(other))


def plain_crossed(rules, string):
    stretches = plain_stretches(rules, string)
    return [(stretch, other) for stretch in stretches for other in stretches if plain_cross(stretch, other)]


def plain_crossed_worth(rules, string, folding, cross):
    pairs, stacks = dict(rules[1]), {row[:2]: row[2] for row in rules[4]}
    total = cross
    for stretch in folding:
        texts = [string[i] + string[j] for i, j in pairs_of(stretch)]
        total += sum(pairs[text] for text in texts)
        total += sum(rules[3][0] + stacks.get(both, 0) for both in zip(texts, texts[1:]))
    return total


def things_like(string):
    """All tuples of two stretches of numbers near the places."""
    numbers = range(-1, len(string) + 1)
    rows = list(itertools.product(numbers, numbers, range(-1, 4)))
    return itertools.product(rows, rows)


class CrossedTest(unittest.TestCase):

    def holds_all(self, rules, string, cross):
        handed = {"rules": rules, "string": string, "cross": cross}
        listed = plain_crossed(rules, string)
        rows = sorted((plain_crossed_worth(rules, string, folding, cross), folding) for folding in listed)
        self.assertEqual(all_crossed(rules, string, cross=cross), rows, handed)
        for worth, folding in rows:
            self.assertIs(is_crossed(rules, string, folding), True, (handed, folding))
            self.assertEqual(crossed_worth(rules, string, folding, cross=cross), worth, (handed, folding))
        self.assertEqual(least_crossed(rules, string, cross=cross), rows[0] if rows else None, handed)
        least = min(plain_worth(rules, string, folding) for folding in every_folding(rules, string))
        self.assertIs(crossing_wins(rules, string, cross=cross), bool(rows) and rows[0][0] < least, handed)
        return len(rows)

    def test_by_lists(self):
        found = 0
        for rules in ALL_RULES + (AB, LIKE):
            for length in range(9):
                for at, string in enumerate(some_texts(rules[0], length, 4)):
                    found += self.holds_all(rules, string, (0, -20, 15, 0)[at])
        self.assertGreater(found, 1000)

    def test_twelve_letters_by_lists(self):
        for rules, string in (
            (ODD, "abacbaabcbab"), (SPANNED, "abacabcbabbc"), (WIDE, "ababababbaab"), (FORKING, "aababbbabbbb"),
            (AB, "aabbabbabaab"), (NO_PAIRS, "abababababab"),
        ):
            self.holds_all(rules, string, -4)

    def test_twelve_like_letters(self):
        listed = plain_crossed(LIKE, "a" * 12)
        self.assertEqual(len(listed), 1190)
        rows = sorted((plain_crossed_worth(LIKE, "a" * 12, folding, 0), folding) for folding in listed)
        self.assertEqual(all_crossed(LIKE, "a" * 12), rows)

    def test_drawn_rules(self):
        draw = random.Random(29)
        for turn in range(300):
            rules = some_rules(draw)
            string = "".join(draw.choice(rules[0]) for place in range(draw.randint(0, 9)))
            self.holds_all(rules, string, draw.randint(-99, 99))

    def test_all_things_of_small_numbers(self):
        for rules, string in ((LIKE, "aaaa"), (ODD, "abab"), (SPANNED, "abbcb")):
            listed = plain_crossed(rules, string)
            for thing in things_like(string):
                self.assertIs(is_crossed(rules, string, thing), thing in listed, thing)

    def test_by_hand(self):
        self.assertEqual(ask_both_ways(self, all_crossed, rules=LIKE, string="aaaa", cross=5), [
            (3, ((0, 2, 1), (1, 3, 1))),
        ])
        self.assertEqual(all_crossed(LIKE, "aaaaa"), [
            (-2, ((0, 2, 1), (1, 3, 1))), (-2, ((0, 2, 1), (1, 4, 1))), (-2, ((0, 3, 1), (1, 4, 1))),
            (-2, ((0, 3, 1), (2, 4, 1))), (-2, ((1, 3, 1), (2, 4, 1))),
        ])
        self.assertEqual(all_crossed(LIKE, "aaaaaa")[:3], [
            (-6, ((0, 3, 1), (1, 5, 2))), (-6, ((0, 4, 2), (2, 5, 1))), (-2, ((0, 2, 1), (1, 3, 1))),
        ])
        # Of the places 0 to 7 both stretches have two pairs: ab within aa, and ba within bb.
        folding = ((0, 5, 2), (2, 7, 2))
        self.assertIs(ask_both_ways(self, is_crossed, rules=AB, string="aabbbaab", thing=folding), True)
        worth = ask_both_ways(self, crossed_worth, rules=AB, string="aabbbaab", folding=folding, cross=-100)
        self.assertEqual(worth, (-5 - 3 - 1) + (-7 + 2 - 1) + 0 - 100)
        self.assertEqual(crossed_worth(AB, "aabbbaab", folding), -15)
        self.assertEqual(crossed_worth(AB, "abaababa", ((0, 5, 2), (2, 7, 2))), (-5 - 7 - 1 - 11) + (-5 - 3 - 1))

    def test_shorter_stretches_too(self):
        told = [folding for worth, folding in all_crossed(LIKE, "a" * 8)]
        for sizes in ((1, 1), (1, 2), (2, 1), (2, 2), (1, 3), (3, 1)):
            self.assertIn(sizes, [(stretch[2], other[2]) for stretch, other in told])
        for folding in (((0, 5, 1), (2, 7, 1)), ((0, 5, 2), (2, 7, 1)), ((0, 5, 1), (2, 7, 2)), ((0, 5, 2), (2, 7, 2))):
            self.assertIn(folding, told)

    def test_great_sizes(self):
        for size in (3, 4, 5, 12, 13, 100, 10 ** 9, 10 ** 99, 10 ** 100 - 1, 0, -1, -10 ** 99):
            for thing in (((0, 5, size), (2, 7, 2)), ((0, 5, 2), (2, 7, size)), ((0, 5, size), (2, 7, size))):
                self.assertIs(is_crossed(LIKE, "aaaaaaaa", thing), False, thing)

    def test_great_places(self):
        for place in (8, 10 ** 99, -1, -10 ** 99):
            for thing in (
                ((place, 5, 1), (2, 7, 1)), ((0, place, 1), (2, 7, 1)), ((0, 5, 1), (place, 7, 1)),
                ((0, 5, 1), (2, place, 1)),
            ):
                self.assertIs(is_crossed(LIKE, "aaaaaaaa", thing), False, thing)

    def test_span_within_a_stretch(self):
        rules = rules_of("a", pairs=(("aa", -1),), span=3)
        self.assertIs(is_crossed(rules, "a" * 9, ((0, 4, 1), (2, 7, 1))), True)
        self.assertIs(is_crossed(rules, "a" * 9, ((0, 3, 1), (2, 7, 1))), False)
        self.assertIs(is_crossed(rules, "a" * 12, ((0, 6, 2), (2, 11, 2))), True)
        self.assertIs(is_crossed(rules, "a" * 12, ((0, 5, 2), (2, 11, 2))), False)

    def test_whatever(self):
        good = ((0, 5, 2), (2, 7, 2))
        self.assertIs(is_crossed(LIKE, "a" * 8, good), True)
        for thing in WHATEVER + (
            list(good), ((0, 5, 2),), good + ((1, 2, 1),), ([0, 5, 2], (2, 7, 2)), ((0, 5, 2), [2, 7, 2]), good[::-1],
            ((0, 5), (2, 7)), ((0, 5, 2, 1), (2, 7, 2)), ((0, 5, True), (2, 7, 1)), ((0, 5, 1), (2, 7, True)),
            ((False, 5, 1), (2, 7, 1)), ((0, 5, 1), (True, 7, 1)), ((0, 5, "1"), (2, 7, 1)), ((0, 5, None), (2, 7, 1)),
            ((0, 5, (1,)), (2, 7, 1)), "0527", (good, good), ((0, 8, 1), (2, 9, 1)), ((-1, 5, 1), (2, 7, 1)),
            ((5, 0, 1), (2, 7, 1)), ((0, 5, 1), (6, 7, 1)), ((0, 7, 1), (2, 5, 1)), ((0, 5, 3), (2, 7, 2)),
        ):
            self.assertIs(is_crossed(LIKE, "a" * 8, thing), False, thing)

    def test_none_where_there_is_none(self):
        for rules, string in ((NO_PAIRS, "abababab"), (LIKE, "aaa"), (LIKE, ""), (ODD, "cccccc"), (WIDE, "ababa")):
            for cross in (0, -99, -10 ** 6):
                self.assertEqual(ask_both_ways(self, all_crossed, rules=rules, string=string, cross=cross), [])
                self.assertIsNone(ask_both_ways(self, least_crossed, rules=rules, string=string, cross=cross))
                self.assertIs(ask_both_ways(self, crossing_wins, rules=rules, string=string, cross=cross), False)

    def test_crossing_wins(self):
        # Four letters a pair at most twice uncrossed, worth -2 in all, and crossed worth -2 with cross left out.
        rules = rules_of("a", pairs=(("aa", -1),))
        self.assertEqual(least_crossed(rules, "aaaa"), (-2, ((0, 2, 1), (1, 3, 1))))
        self.assertIs(crossing_wins(rules, "aaaa"), False)
        self.assertIs(crossing_wins(rules, "aaaa", cross=0), False)
        self.assertIs(ask_both_ways(self, crossing_wins, rules=rules, string="aaaa", cross=-1), True)
        self.assertIs(ask_both_ways(self, crossing_wins, rules=rules, string="aaaa", cross=1), False)

    def test_cross_left_out(self):
        for tell in TELLING:
            self.assertEqual(tell(AB, "aabbab"), tell(AB, "aabbab", cross=0))
        folding = all_crossed(AB, "aabbab")[0][1]
        self.assertEqual(crossed_worth(AB, "aabbab", folding), crossed_worth(AB, "aabbab", folding, cross=0))

    def test_twelve_letters_in_good_time(self):
        began = time.process_time()
        for cross in range(-10, 10):
            all_crossed(ONE_LETTER, "a" * 12, cross=cross)
            least_crossed(ONE_LETTER, "a" * 12, cross=cross)
            crossing_wins(ONE_LETTER, "a" * 12, cross=cross)
        self.assertLess(time.process_time() - began, 12)

    def test_what_is_told_is_the_askers_own(self):
        stays_as_told(self, all_crossed, LIKE, "aaaaaa")
        stays_as_told(self, all_crossed, LIKE, "aaaaaa", cross=3)

    def test_plain_kinds(self):
        self.assertEqual(kinds_in(all_crossed(LIKE, "aaaaaa")), {list, tuple, int})
        self.assertEqual(kinds_in(least_crossed(LIKE, "aaaaaa")), {tuple, int})

    def test_names(self):
        for tell in TELLING:
            self.assertEqual(names_of(tell), (["rules", "string"], {"cross": 0}))
            with self.assertRaises(TypeError):
                tell(LIKE, "aaaa", 0)
        self.assertEqual(names_of(is_crossed), (["rules", "string", "thing"], {}))
        self.assertEqual(names_of(crossed_worth), (["rules", "string", "folding"], {"cross": 0}))
        for tell in TELLING + (is_crossed, crossed_worth):
            self.assertEqual(tell.__module__, crossed_file.__name__)


if __name__ == "__main__":
    unittest.main()
