import itertools
import unittest

from pairfolds import holds as holds_file
from pairfolds.holds import are_holds, least_held
from pairfolds.rules import rules_of
from tests.helper import ALL_RULES, CHEAP, EIGHT, FORKING, NO_PAIRS, ODD, ONE_LETTER, SPANNED, WHATEVER
from tests.helper import ask_both_ways, every_folding, keeping, kinds_in, listed_with_worths, names_of, plain_worth
from tests.helper import some_texts

TWELVE = (
    (ODD, "abacbaabcbab"), (ONE_LETTER, "aaaaaaaaaaaa"), (CHEAP, "aababbabbaab"), (FORKING, "aaababbababb"),
    (SPANNED, "abacabcbabbc"),
)


def sets_of(things, most):
    return [chosen for size in range(most + 1) for chosen in itertools.combinations(things, size)]


def all_pairs(string):
    return list(itertools.combinations(range(len(string)), 2))


def some_holds(rules, string, many):
    """Holds that a folding keeps, the same ones each time."""
    foldings = every_folding(rules, string)
    told = [((), ())]
    for at in range(many):
        pairs = foldings[at * 7919 % len(foldings)]
        kept = tuple(pair for k, pair in enumerate(pairs) if (at >> k) % 2 == 0)
        taken = [place for pair in kept for place in pair]
        free = tuple(place for place in range(len(string)) if place not in taken and (at * 31 + place * 7) % 5 == 0)
        told.append((free, kept))
    return told


class AreHoldsTest(unittest.TestCase):

    def test_by_lists(self):
        for rules, string in ((ODD, ""), (ODD, "ab"), (ODD, "abab"), (SPANNED, "abcb"), (ONE_LETTER, "aaaa")):
            foldings = every_folding(rules, string)
            for free in sets_of(range(-1, len(string) + 1), 3):
                for pairs in sets_of(all_pairs(string), 2):
                    inside = all(0 <= place < len(string) for place in free)
                    due = inside and pairs in foldings and not any(place in free for pair in pairs for place in pair)
                    self.assertIs(are_holds(rules, string, (free, pairs)), due, (string, free, pairs))

    def test_holds(self):
        for thing in (
            ((), ()), ((0,), ()), ((0, 1, 2, 3), ()), ((), ((0, 1),)), ((2,), ((0, 1),)), ((), ((0, 3), (1, 2))),
            ((1, 2), ((0, 3),)),
        ):
            self.assertIs(ask_both_ways(self, are_holds, rules=ODD, string="abab", thing=thing), True, thing)

    def test_no_holds(self):
        for thing in (
            (), ((),), ((), (), ()), [(), ()], ([], ()), ((), []), ([0], ()), ((), [(0, 1)]), ((), ([0, 1],)),
            (None, ()), ((), None), ((1, 0), ()), ((0, 0), ()), ((-1,), ()), ((4,), ()), ((True,), ()), ((False, 1), ()),
            (("0",), ()), (((0,),), ()), ((0, None), ()), ((10 ** 99,), ()), ((0,), ((0, 1),)), ((1,), ((0, 1),)),
            ((3,), ((0, 3),)), ((), ((1, 3),)), ((), ((0, 1), (1, 2))), ((), ((0, 2), (1, 3))), ((), ((2, 3), (0, 1))),
            ((), ((0, 1), (0, 1))), ((), ((False, True),)), ((), ((1, 0),)), ((), ((0, 4),)), ((), "()()"),
            ("", ()), ((), ""), ({}, ()), ((), {}), (0, ()), ((), 0), "ab", {0: (), 1: ()},
        ) + WHATEVER:
            self.assertIs(are_holds(ODD, "abab", thing), False, thing)

    def test_span(self):
        self.assertIs(are_holds(SPANNED, "abb", ((), ((0, 1),))), False)
        self.assertIs(are_holds(SPANNED, "abb", ((), ((0, 2),))), True)


class LeastHeldTest(unittest.TestCase):

    def holds_least(self, rules, string, holds, listed):
        told = least_held(rules, string, holds)
        kept = keeping(listed, holds)
        if not kept:
            self.assertIsNone(told, (rules, string, holds))
            return
        self.assertEqual((type(told), len(told)), (tuple, 2))
        self.assertEqual(told[0], kept[0][0], (rules, string, holds))
        self.assertIn(told, kept, (rules, string, holds))

    def test_all_holds_of_four_letters(self):
        for rules in ALL_RULES:
            for string in some_texts(rules[0], 4, 4):
                listed = listed_with_worths(rules, string)
                for free in sets_of(range(4), 4):
                    for pairs in sets_of(all_pairs(string), 2):
                        self.holds_least(rules, string, (free, pairs), listed)

    def test_short_strings(self):
        for rules in ALL_RULES:
            for string in ("", rules[0][0], rules[0][-1] * 2):
                listed = listed_with_worths(rules, string)
                for free in sets_of(range(len(string)), 2):
                    for pairs in sets_of(all_pairs(string), 2):
                        self.holds_least(rules, string, (free, pairs), listed)

    def test_seven_letters(self):
        for rules in ALL_RULES:
            for string in some_texts(rules[0], 7, 3):
                listed = listed_with_worths(rules, string)
                for free in sets_of(range(7), 2):
                    for pairs in sets_of(all_pairs(string), 1):
                        self.holds_least(rules, string, (free, pairs), listed)

    def test_each_folding_held(self):
        for rules, string in EIGHT:
            listed = listed_with_worths(rules, string)
            for worth, folding in listed:
                self.holds_least(rules, string, ((), folding), listed)
                taken = [place for pair in folding for place in pair]
                rest = tuple(place for place in range(8) if place not in taken)
                self.assertEqual(least_held(rules, string, (rest, folding)), (worth, folding))

    def test_twelve_letters(self):
        for rules, string in TWELVE:
            listed = listed_with_worths(rules, string)
            for holds in some_holds(rules, string, 40):
                self.holds_least(rules, string, holds, listed)

    def test_asked_many_times(self):
        string = "a" * 12
        for at in range(600):
            free = tuple(place for place in range(12) if (at * 37 + place * place) % 4 == 0)
            worth, folding = least_held(ONE_LETTER, string, (free, ()))
            self.assertEqual(plain_worth(ONE_LETTER, string, folding), worth)
            self.assertFalse(any(place in free for pair in folding for place in pair))

    def test_none_keeps_them(self):
        for holds in (
            ((0,), ((0, 1),)), ((1,), ((0, 1),)), ((), ((0, 1), (1, 2))), ((), ((0, 1), (0, 3))), ((), ((1, 3),)),
            ((), ((0, 2), (1, 3))), ((0, 1, 2, 3), ((1, 2),)), ((), ((0, 2), (1, 2))),
        ):
            self.assertIsNone(ask_both_ways(self, least_held, rules=ODD, string="abab", holds=holds), holds)
        self.assertIsNone(least_held(NO_PAIRS, "ab", ((), ((0, 1),))))

    def test_by_hand(self):
        rules = rules_of("ab", pairs=(("ab", -3), ("ba", -1)))
        for string, holds, told in (
            ("", ((), ()), (0, ())),
            ("ab", ((), ()), (-3, ((0, 1),))),
            ("ab", ((0,), ()), (0, ())),
            ("ab", ((), ((0, 1),)), (-3, ((0, 1),))),
            ("aba", ((), ((1, 2),)), (-1, ((1, 2),))),
            ("aba", ((0,), ()), (-1, ((1, 2),))),
            ("aabb", ((), ((0, 3),)), (-6, ((0, 3), (1, 2)))),
            ("aabb", ((1, 2), ((0, 3),)), (-3, ((0, 3),))),
        ):
            self.assertEqual(ask_both_ways(self, least_held, rules=rules, string=string, holds=holds), told)

    def test_the_same_one_each_time(self):
        for rules, string in EIGHT:
            for holds in some_holds(rules, string, 5):
                self.assertEqual(least_held(rules, string, holds), least_held(rules, string, holds))

    def test_plain_kinds(self):
        self.assertEqual(kinds_in(least_held(ODD, "abab", ((0,), ()))), {tuple, int})

    def test_names(self):
        self.assertEqual(names_of(are_holds), (["rules", "string", "thing"], {}))
        self.assertEqual(names_of(least_held), (["rules", "string", "holds"], {}))
        for tell in (are_holds, least_held):
            self.assertEqual(tell.__module__, holds_file.__name__)


if __name__ == "__main__":
    unittest.main()
