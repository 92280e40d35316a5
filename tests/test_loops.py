import unittest

from pairfolds import loops as loops_file
from pairfolds.loops import loops_of, straight_within, worth_of
from pairfolds.rules import rules_of
from tests.helper import ALL_RULES, DEAR, ODD, SPANNED, ask_both_ways, children, every_folding, names_of
from tests.helper import plain_loop, plain_worth, strings_for

# (string, folding, loops, worth) by the rules ODD, reckoned by hand.
BY_HAND = (
    ("", (), [], 0),
    ("abcab", (), [], 0),
    ("ab", ((0, 1),), [(0, 1, "lone", 0, 4)], -14),
    ("acccb", ((0, 4),), [(0, 4, "lone", 3, 13)], -5),
    ("aabb", ((0, 3), (1, 2)), [(0, 3, "stacked", 0, -38), (1, 2, "lone", 0, 4)], -69),
    ("aaab", ((0, 3), (1, 2)), [(0, 3, "stacked", 0, -7), (1, 2, "lone", 0, 4)], -24),
    ("abab", ((0, 3), (1, 2)), [(0, 3, "stacked", 0, 16), (1, 2, "lone", 0, 4)], 7),
    ("baba", ((0, 3), (1, 2)), [(0, 3, "stacked", 0, -44), (1, 2, "lone", 0, 4)], -53),
    ("acabb", ((0, 4), (2, 3)), [(0, 4, "inner", 1, 13), (2, 3, "lone", 0, 4)], -18),
    ("aabcb", ((0, 4), (1, 2)), [(0, 4, "inner", 1, 13), (1, 2, "lone", 0, 4)], -18),
    ("accabcb", ((0, 6), (3, 4)), [(0, 6, "inner", 3, 17), (3, 4, "lone", 0, 4)], -14),
    (
        "aababb", ((0, 5), (1, 2), (3, 4)),
        [(0, 5, "forked", 0, -51), (1, 2, "lone", 0, 4), (3, 4, "lone", 0, 4)], -95,
    ),
    (
        "acabcabcb", ((0, 8), (2, 3), (5, 6)),
        [(0, 8, "forked", 3, -48), (2, 3, "lone", 0, 4), (5, 6, "lone", 0, 4)], -92,
    ),
    (
        "aabababb", ((0, 7), (1, 2), (3, 4), (5, 6)),
        [(0, 7, "forked", 0, -70), (1, 2, "lone", 0, 4), (3, 4, "lone", 0, 4), (5, 6, "lone", 0, 4)], -127,
    ),
    ("abcab", ((0, 1), (3, 4)), [(0, 1, "lone", 0, 4), (3, 4, "lone", 0, 4)], -28),
    (
        "caabb" + "aba", ((1, 4), (2, 3), (5, 6)),
        [(1, 4, "stacked", 0, -38), (2, 3, "lone", 0, 4), (5, 6, "lone", 0, 4)], -83,
    ),
)


class StraightWithinTest(unittest.TestCase):

    def test_by_hand(self):
        folding = ((0, 11), (1, 4), (2, 3), (5, 6), (7, 10), (8, 9))
        asked = {
            None: [(0, 11)], (0, 11): [(1, 4), (5, 6), (7, 10)], (1, 4): [(2, 3)], (2, 3): [], (5, 6): [], (7, 10): [(8, 9)],
        }
        for pair, told in asked.items():
            self.assertEqual(ask_both_ways(self, straight_within, folding=folding, pair=pair), told)

    def test_the_outermost(self):
        self.assertEqual(straight_within((), None), [])
        self.assertEqual(straight_within(((0, 1), (2, 5), (3, 4), (7, 9)), None), [(0, 1), (2, 5), (7, 9)])

    def test_by_lists(self):
        for rules in ALL_RULES:
            for string in strings_for(rules):
                for folding in every_folding(rules, string):
                    for pair in (None, *folding):
                        self.assertEqual(straight_within(folding, pair), children(folding, pair), (folding, pair))

    def test_what_is_told_is_the_askers_own(self):
        folding = ((0, 5), (1, 2), (3, 4))
        told = straight_within(folding, (0, 5))
        told.clear()
        self.assertEqual(straight_within(folding, (0, 5)), [(1, 2), (3, 4)])
        self.assertEqual(folding, ((0, 5), (1, 2), (3, 4)))


class LoopsTest(unittest.TestCase):

    def test_by_hand(self):
        for string, folding, loops, worth in BY_HAND:
            self.assertEqual(ask_both_ways(self, loops_of, rules=ODD, string=string, folding=folding), loops)
            self.assertEqual(ask_both_ways(self, worth_of, rules=ODD, string=string, folding=folding), worth, string)

    def test_by_lists(self):
        kinds = set()
        for rules in ALL_RULES:
            for string in strings_for(rules):
                for folding in every_folding(rules, string):
                    loops = [pair + plain_loop(rules, string, folding, pair) for pair in folding]
                    kinds |= {loop[2] for loop in loops}
                    self.assertEqual(loops_of(rules, string, folding), loops, (rules, string, folding))
                    worth = plain_worth(rules, string, folding)
                    self.assertEqual(worth_of(rules, string, folding), worth, (rules, string, folding))
        self.assertEqual(kinds, {"lone", "stacked", "inner", "forked"})

    def test_longer_ones_by_lists(self):
        for rules, string in ((ODD, "abacbaabcb"), (SPANNED, "abacabcbabcb"), (DEAR, "abbaababba")):
            for folding in every_folding(rules, string):
                self.assertEqual(worth_of(rules, string, folding), plain_worth(rules, string, folding))

    def test_each_worth_stands_for_itself(self):
        parts_of = {
            ((0, 11), (1, 7), (2, 6), (3, 4), (8, 9)): (1, 1, 1, 1, 2, 1, 2, 0, 1),
            ((0, 4), (5, 8)): (0, 0, 0, 0, 0, 0, 2, 5, 2),
            ((0, 10), (3, 5)): (0, 1, 6, 0, 0, 0, 1, 1, 1),
        }
        for folding, parts in parts_of.items():
            for at, many in enumerate(parts):
                loops = [0] * 9
                loops[at] = 7
                rules = rules_of("a", pairs=(("aa", 0),), loops=loops)
                self.assertEqual(worth_of(rules, "a" * 12, folding), 7 * many, (folding, at))

    def test_open_counts_each_outermost_pair(self):
        rules = rules_of("a", pairs=(("aa", 0),), loops=(0, 0, 0, 0, 0, 0, 0, 0, 5))
        for folding, worth in (((), 0), (((0, 5),), 5), (((0, 1), (2, 3), (4, 5)), 15), (((0, 5), (1, 2), (3, 4)), 5)):
            self.assertEqual(worth_of(rules, "aaaaaa", folding), worth)

    def test_what_is_told_is_the_askers_own(self):
        told = loops_of(ODD, "aabb", ((0, 3), (1, 2)))
        told.append(None)
        self.assertEqual(len(loops_of(ODD, "aabb", ((0, 3), (1, 2)))), 2)

    def test_names(self):
        self.assertEqual(names_of(straight_within), (["folding", "pair"], {}))
        self.assertEqual(names_of(loops_of), (["rules", "string", "folding"], {}))
        self.assertEqual(names_of(worth_of), (["rules", "string", "folding"], {}))
        for function in (straight_within, loops_of, worth_of):
            self.assertEqual(function.__module__, loops_file.__name__)


if __name__ == "__main__":
    unittest.main()
