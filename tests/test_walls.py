import unittest

from pairfolds import walls as walls_file
from pairfolds.rules import rules_of
from pairfolds.walls import wall, wall_holds
from tests.helper import ALL_RULES, CHEAP, EIGHT, FORKING, NO_PAIRS, ODD, ONE_LETTER, SPANNED, WHATEVER
from tests.helper import Land, ask_both_ways, kinds_in, names_of, plain_worth, some_pairs, some_texts, stays_as_told


class WallTest(unittest.TestCase):

    def holds_wall(self, land, folding, other):
        rules, string = land.rules, land.string
        height = land.lowest_ridge(folding, other)
        told = ask_both_ways(self, wall, rules=rules, string=string, folding=folding, other=other)
        self.assertIs(type(told), list)
        self.assertTrue(land.is_wall(folding, other, height, told), (rules, string, folding, other))
        handed = {"folding": folding, "other": other, "height": height, "thing": told}
        self.assertIs(ask_both_ways(self, wall_holds, rules=rules, string=string, **handed), True)

    def test_all_pairs_of_foldings(self):
        for rules in ALL_RULES:
            for string in some_texts(rules[0], 4, 3) + some_texts(rules[0], 5, 1) + ["", rules[0][0]]:
                land = Land(rules, string)
                for folding in land.foldings:
                    for other in land.foldings:
                        self.holds_wall(land, folding, other)

    def test_eight_letters(self):
        for rules, string in EIGHT:
            land = Land(rules, string)
            for folding, other in some_pairs(land.foldings, 6):
                self.holds_wall(land, folding, other)

    def test_all_lists_of_few_foldings(self):
        for rules, string in ((ODD, "aab"), (ODD, "cab"), (ONE_LETTER, "aaa"), (SPANNED, "abb"), (FORKING, "aab")):
            land = Land(rules, string)
            lists = [[]]
            for folding in land.foldings:
                lists += [told + [folding] for told in lists]
            heights = sorted({worth + more for worth in land.worths.values() for more in (0, 1)})
            for folding in land.foldings:
                for other in land.foldings:
                    for height in heights:
                        for thing in lists:
                            told = wall_holds(rules, string, folding, other, height, thing)
                            self.assertIs(told, land.is_wall(folding, other, height, thing), (folding, other, thing))

    def test_walls_of_another_maker(self):
        met = 0
        for rules, string in ((ODD, "abacba"), (ODD, "cbabab"), (SPANNED, "ababcbb"), (CHEAP, "ababab")):
            land = Land(rules, string)
            for folding, other in some_pairs(land.foldings, 40):
                height = land.lowest_ridge(folding, other)
                pools = {tuple(sorted(land.reached(start, height))) for start in land.foldings}
                first = tuple(sorted(land.reached(folding, height)))
                for pool in pools - {first, ()}:
                    if first and other not in pool:
                        met += 1
                        thing = sorted(first + pool)
                        self.assertIs(wall_holds(rules, string, folding, other, height, thing), True)
        self.assertGreater(met, 20)

    def test_lower_heights(self):
        for rules, string in EIGHT:
            land = Land(rules, string)
            for folding, other in some_pairs(land.foldings, 3):
                height = land.lowest_ridge(folding, other)
                for lower in (height, height - 1, height - 20):
                    thing = sorted(land.reached(folding, lower))
                    self.assertIs(wall_holds(rules, string, folding, other, lower, thing), True)
                above = sorted(land.reached(folding, height + 1))
                self.assertIs(wall_holds(rules, string, folding, other, height + 1, above), False)

    def test_heights_of_any_size(self):
        for height in (10 ** 99, -10 ** 99):
            for thing in ([], [()], [(), ((0, 1),)], [((0, 1),)]):
                told = wall_holds(ODD, "ab", (), ((0, 1),), height, thing)
                self.assertIs(told, height < 0 and thing == [])
        self.assertIs(wall_holds(NO_PAIRS, "ab", (), (), 0, []), True)
        self.assertIs(wall_holds(NO_PAIRS, "ab", (), (), 1, []), False)

    def bent(self, land, folding, other, height, thing):
        yield from (tuple(thing), thing[::-1], thing + thing[-1:], [], {0: thing}, [thing], thing + [other], [other])
        for at, member in enumerate(thing):
            rest = thing[:at] + thing[at + 1:]
            yield from (rest, thing[:at] + [list(member)] + thing[at + 1:], rest + [None], thing[:at] + [member] + thing[at:])
        yield sorted(thing + [other])
        for folding in land.foldings:
            if land.worths[folding] >= height:
                yield sorted(thing + [folding])

    def test_bent_walls(self):
        met = 0
        for rules, string in ((ODD, "abacba"), (ONE_LETTER, "aaaaa"), (CHEAP, "abab"), (FORKING, "aabb")):
            land = Land(rules, string)
            for folding, other in some_pairs(land.foldings, 10):
                height = land.lowest_ridge(folding, other)
                thing = sorted(land.reached(folding, height))
                if len(thing) < 2:
                    continue
                met += 1
                for bent in self.bent(land, folding, other, height, thing):
                    told = wall_holds(rules, string, folding, other, height, bent)
                    self.assertIs(told, False, (string, folding, other, bent))
        self.assertGreater(met, 5)

    def test_truths_for_numbers(self):
        rules = rules_of("ab", pairs=(("ab", -3),))
        self.assertIs(wall_holds(rules, "ab", ((0, 1),), (), 0, [((0, 1),)]), True)
        for thing in ([((False, True),)], [((0, True),)], [[(0, 1)]], [([0, 1],)], (((0, 1),),)):
            self.assertIs(wall_holds(rules, "ab", ((0, 1),), (), 0, thing), False)

    def test_whatever(self):
        for folding, other, height in (((), ((0, 1),), 5), (((0, 1),), (), 0), ((), (), 0), ((), ((0, 1),), 0)):
            for thing in WHATEVER:
                told = wall_holds(ODD, "ab", folding, other, height, thing)
                due = thing == [] and plain_worth(ODD, "ab", folding) >= height
                self.assertIs(told, due, (folding, other, height, thing))

    def test_by_hand(self):
        rules = rules_of("ab", pairs=(("ab", -3), ("ba", 2)))
        for string, folding, other, told in (
            ("", (), (), []), ("ab", (), ((0, 1),), []), ("ba", ((0, 1),), (), []), ("ab", ((0, 1),), ((0, 1),), []),
        ):
            self.assertEqual(wall(rules, string, folding, other), told)
        self.assertEqual(wall(rules, "abb", ((0, 1),), ((0, 2),)), [((0, 1),)])
        self.assertEqual(wall(rules, "ba", (), ((0, 1),)), [()])
        self.assertEqual(wall(rules, "aba", ((0, 1),), ((1, 2),)), [(), ((0, 1),)])

    def test_what_is_told_is_the_askers_own(self):
        stays_as_told(self, wall, ODD, "abacba", ((0, 1),), ((1, 2),))
        self.assertEqual(kinds_in(wall(ODD, "abacba", ((0, 1),), ((1, 2),))), {list, tuple, int})

    def test_names(self):
        self.assertEqual(names_of(wall), (["rules", "string", "folding", "other"], {}))
        self.assertEqual(names_of(wall_holds), (["rules", "string", "folding", "other", "height", "thing"], {}))
        for tell in (wall, wall_holds):
            self.assertEqual(tell.__module__, walls_file.__name__)


if __name__ == "__main__":
    unittest.main()
