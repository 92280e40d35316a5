import random
import time
import unittest

from pairfolds import nicked as nicked_file
from pairfolds.errors import NoString
from pairfolds.least import least_worth
from pairfolds.nicked import held_worth, how_many_held, is_held, least_together, won
from pairfolds.rules import rules_of
from tests.helper import ALL_RULES, NO_PAIRS, ODD, ONE_LETTER, SPANNED, WHATEVER, WIDE
from tests.helper import all_texts, ask_both_ways, children, every_folding, kinds_in, names_of, plain_loop, plain_worth
from tests.helper import refuses_no_string, some_rules, some_texts

TELLING = (how_many_held, least_together, won)
TEN_LIKE = ("a", (("aa", -1),), 0, (-3, 1, 0, 2, 0, 0, 3, 0, 4), ())


def around_nick(folding, nick):
    """The innermost pair around the nick, by the places between its own."""
    around = [(j - i, (i, j)) for i, j in folding if i < nick <= j]
    return min(around)[1] if around else None


def all_held(rules, string, string2):
    """All foldings of both strings, rising: span is asked of all pairs but the innermost one around the nick."""
    listed = every_folding(rules[:2] + (0,) + rules[3:], string + string2)
    nick = len(string)
    return [
        folding for folding in listed
        if all(j - i - 1 >= rules[2] or (i, j) == around_nick(folding, nick) for i, j in folding)
    ]


def plain_held_worth(rules, string, string2, folding):
    """The worth pair by pair, and open for each pair in the open loop and in the loop of the nick."""
    both, outside = string + string2, rules[3][8]
    nicked = around_nick(folding, len(string))
    total = outside * len(children(folding, None))
    for pair in folding:
        total += dict(rules[1])[both[pair[0]] + both[pair[1]]]
        if pair == nicked:
            total += outside * len(children(folding, pair))
        else:
            total += plain_loop(rules, both, folding, pair)[2]
    return total


def two_strings(rules):
    """All short pairs of strings, and some longer ones, of none to ten letters together."""
    short = [text for length in range(3) for text in all_texts(rules[0], length)]
    told = [(string, string2) for string in short for string2 in short]
    for size, size2 in ((0, 5), (5, 0), (1, 5), (5, 1), (3, 3), (2, 5), (4, 3), (0, 7), (7, 0)):
        whole = some_texts(rules[0], size + size2, 2)
        told += [(text[:size], text[size:]) for text in whole]
    return told


class HeldTest(unittest.TestCase):

    def holds_all(self, rules, string, string2):
        handed = {"rules": rules, "string": string, "string2": string2}
        listed = all_held(rules, string, string2)
        worths = {folding: plain_held_worth(rules, string, string2, folding) for folding in listed}
        for folding in listed:
            self.assertIs(is_held(rules, string, string2, folding), True, (handed, folding))
            self.assertEqual(held_worth(rules, string, string2, folding), worths[folding], (handed, folding))
        for folding in every_folding((rules[0], rules[1], 0) + rules[3:], string + string2):
            self.assertIs(is_held(rules, string, string2, folding), folding in worths, (handed, folding))
        self.assertEqual(how_many_held(rules, string, string2), len(listed), handed)
        told = least_together(rules, string, string2)
        self.assertEqual((type(told), len(told)), (tuple, 2))
        self.assertEqual(told[0], min(worths.values()), handed)
        self.assertEqual(worths[told[1]], told[0], handed)
        self.assertEqual(least_together(rules, string, string2), told)
        self.assertEqual(won(**handed), self.least_alone(rules, string) + self.least_alone(rules, string2) - told[0])

    def least_alone(self, rules, string):
        return min(plain_worth(rules, string, folding) for folding in every_folding(rules, string))

    def test_by_lists(self):
        for rules in ALL_RULES:
            for string, string2 in two_strings(rules):
                self.holds_all(rules, string, string2)

    def test_ten_letters_by_lists(self):
        for rules in ALL_RULES:
            if rules != ONE_LETTER:
                for at, text in enumerate(some_texts(rules[0], 10, 2)):
                    for nick in (5, 1 + at * 7):
                        self.holds_all(rules, text[:nick], text[nick:])

    def test_ten_like_letters_by_lists(self):
        for span in (0, 2, 3):
            rules = ("a", (("aa", -1),), span) + TEN_LIKE[3:]
            for nick in (0, 1, 5, 10):
                self.holds_all(rules, "a" * nick, "a" * (10 - nick))

    def test_drawn_rules(self):
        draw = random.Random(17)
        for turn in range(250):
            rules = some_rules(draw)
            text = "".join(draw.choice(rules[0]) for place in range(draw.randint(0, 9)))
            nick = draw.randint(0, len(text))
            self.holds_all(rules, text[:nick], text[nick:])

    def test_by_hand(self):
        # The worths of loops are all unlike, so that none stands in for another one.
        loops = (1000, 2000, 300, 4000, 500, 600, 7000, 80, 9)
        rules = ("ab", (("aa", 1), ("ab", 10000)), 0, loops, (("ab", "ab", 20000), ("ab", "aa", 40000)))
        for string, string2, folding, worth in (
            ("", "", (), 0),
            ("a", "b", (), 0),
            # The nick in the innermost pair, which has no lone loop then.
            ("a", "b", ((0, 1),), 10009),
            ("ab", "", ((0, 1),), 17009),
            ("", "ab", ((0, 1),), 17009),
            # The nick in the open loop, with pairs on both its sides.
            ("ab", "ab", ((0, 1), (2, 3)), 34018),
            # Free places in the loop of the nick are worth nothing.
            ("abb", "aab", ((0, 5),), 10009),
            # One pair straight within: open in the place of stacked, inner and stacks.
            ("aab", "b", ((0, 3), (1, 2)), 27018),
            ("abab", "bb", ((0, 4), (2, 3)), 27018),
            # Two straight within, on one side and on both.
            ("aab", "abb", ((0, 5), (1, 2), (3, 4)), 10000 + 9 + 2 * 17009),
            ("aabab", "b", ((0, 5), (1, 2), (3, 4)), 10000 + 9 + 2 * 17009),
            # The innermost alone has the nick: that around it is stacked, inner or forked as ever.
            ("aa", "bb", ((0, 3), (1, 2)), 20000 + 1000 + 20000 + 9),
            ("aba", "bb", ((0, 4), (2, 3)), 20000 + 2000 + 300 + 9),
            ("aaba", "bb", ((0, 5), (1, 2), (3, 4)), 30000 + 4000 + 1000 + 7000 + 9),
        ):
            handed = {"rules": rules, "string": string, "string2": string2, "folding": folding}
            self.assertEqual(ask_both_ways(self, held_worth, **handed), worth, handed)
            handed["thing"] = handed.pop("folding")
            self.assertIs(ask_both_ways(self, is_held, **handed), True, handed)

    def test_span(self):
        rules = rules_of("ab", pairs=(("ab", -3),), span=3)
        for string, string2, thing, due in (
            ("a", "b", ((0, 1),), True), ("ab", "", ((0, 1),), False), ("", "ab", ((0, 1),), False),
            ("aa", "bb", ((0, 3),), True), ("aa", "bb", ((1, 2),), True), ("aa", "bb", ((0, 3), (1, 2)), False),
            ("aaa", "bbb", ((0, 5), (2, 3)), True), ("aaa", "bbb", ((0, 5), (1, 4)), True),
            ("aaa", "bbb", ((0, 5), (1, 4), (2, 3)), False), ("aaa", "bbb", ((1, 4), (2, 3)), False),
            ("ab", "b", ((0, 1),), False), ("ab", "b", ((0, 2),), True), ("aab", "b", ((0, 3), (1, 2)), False),
            ("aabbb", "b", ((0, 5), (1, 4)), False), ("aabbbb", "b", ((0, 6), (1, 5)), True),
        ):
            self.assertIs(is_held(rules, string, string2, thing), due, (string, string2, thing))
        self.assertEqual(ask_both_ways(self, how_many_held, rules=rules, string="aa", string2="bb"), 5)
        self.assertEqual(ask_both_ways(self, how_many_held, rules=rules, string="aabb", string2=""), 1)

    def test_two_strings_that_pair_across_alone(self):
        rules = rules_of("ab", pairs=(("ab", -3),), span=0, loops=(-1, 5, 5, 5, 5, 5, 5, 5, 1))
        self.assertEqual(least_worth(rules, "aaa"), 0)
        self.assertEqual(ask_both_ways(self, least_together, rules=rules, string="aaa", string2="bbb"), (
            -10, ((0, 5), (1, 4), (2, 3)),
        ))
        self.assertEqual(ask_both_ways(self, won, rules=rules, string="aaa", string2="bbb"), 10)
        self.assertEqual(won(rules, "bbb", "aaa"), 0)
        self.assertEqual(least_together(rules, "bbb", "aaa"), (0, ()))

    def test_together_is_never_dearer(self):
        for string, string2 in two_strings(ODD):
            self.assertGreaterEqual(won(ODD, string, string2), 0)
        self.assertEqual(won(NO_PAIRS, "abab", "ba"), 0)
        self.assertEqual(won(ODD, "", ""), 0)

    def test_no_folding(self):
        for thing in (
            [], [(0, 1)], ([0, 1],), ((0, 1), (0, 1)), ((2, 3), (0, 1)), ((0, 3), (0, 1)), ((0, 2), (1, 3)), ((1, 0),),
            ((0, 0),), ((1, 1),), ((0, 4),), ((-1, 1),), ((3, 4),), ((False, True),), ((0, True),), ((0, 1, 2),),
            ((0,),), (0, 1), ((0, 1), None), ((0, "1"),), "()()", "....", ((0, 10 ** 99),), ((1, 3),),
        ) + WHATEVER:
            self.assertIs(is_held(ODD, "ab", "ab", thing), False, thing)
        self.assertIs(is_held(ODD, "", "", ()), True)

    def test_no_string(self):
        for tell in TELLING:
            refuses_no_string(self, lambda rules, string: tell(rules, string, "ab"), NoString)
            refuses_no_string(self, lambda rules, string: tell(rules, "ab", string), NoString)
            refuses_no_string(self, lambda rules, string: tell(rules, string, string2=None), NoString)
        for thing in ((), ((0, 1),), None, "x"):
            refuses_no_string(self, lambda rules, string: is_held(rules, string, "ab", thing), NoString)
            refuses_no_string(self, lambda rules, string: is_held(rules, "ab", string, thing), NoString)

    def test_held_worth_refuses_no_string(self):
        self.assertEqual(held_worth(ODD, "xy", "", ()), 0)
        self.assertEqual(held_worth(ODD, "a" * 13, "z", ()), 0)

    def test_ten_letters_in_good_time(self):
        began = time.process_time()
        for nick in range(11):
            for turn in range(5):
                self.assertEqual(how_many_held(TEN_LIKE, "a" * nick, "a" * (10 - nick)), 2188)
                least_together(TEN_LIKE, "a" * nick, "a" * (10 - nick))
                won(TEN_LIKE, "a" * nick, "a" * (10 - nick))
        self.assertLess(time.process_time() - began, 10)

    def test_plain_kinds(self):
        self.assertEqual(kinds_in(least_together(SPANNED, "ab", "bb")), {tuple, int})
        self.assertIs(type(how_many_held(WIDE, "ab", "ab")), int)
        self.assertIs(type(won(WIDE, "ab", "ab")), int)

    def test_names(self):
        for tell in TELLING:
            self.assertEqual(names_of(tell), (["rules", "string", "string2"], {}))
        self.assertEqual(names_of(is_held), (["rules", "string", "string2", "thing"], {}))
        self.assertEqual(names_of(held_worth), (["rules", "string", "string2", "folding"], {}))
        for tell in TELLING + (is_held, held_worth):
            self.assertEqual(tell.__module__, nicked_file.__name__)


if __name__ == "__main__":
    unittest.main()
