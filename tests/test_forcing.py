import itertools
import unittest

from pairfolds import forcing as forcing_file
from pairfolds.forcing import forcing, is_forced, lets_forcing
from pairfolds.rules import rules_of
from tests.helper import ALL_RULES, DEAR, EIGHT, FORKING, NO_PAIRS, ODD, ONE_LETTER, SPANNED, WHATEVER
from tests.helper import ask_both_ways, keeping, kinds_in, listed_with_worths, names_of, some_texts

AB = rules_of("ab", pairs=(("ab", -3), ("ba", -2)))


def all_pairs(string):
    return list(itertools.combinations(range(len(string)), 2))


def all_sets(string, pair):
    """All sets of places beside the pair's own, rising by (how many, places)."""
    places = [place for place in range(len(string)) if place not in pair]
    return [chosen for size in range(len(places) + 1) for chosen in itertools.combinations(places, size)]


def plain_least(listed, holds):
    """All least foldings of those that keep the holds."""
    kept = keeping(listed, holds)
    return [folding for worth, folding in kept if worth == kept[0][0]]


def plain_forced(listed, pair, holds):
    least = plain_least(listed, holds)
    return bool(least) and all(pair in folding for folding in least)


def plain_answers(listed, string, pair):
    """(all places that may be told, the rows of the paper with all foldings that may stand there)."""
    rows, found = [], []
    for places in all_sets(string, pair):
        if found and len(places) > len(found[0]):
            break
        others = [folding for folding in plain_least(listed, (places, ())) if pair not in folding]
        if others:
            rows.append((places, others))
        else:
            found.append(places)
    if found:
        return found, [row for row in rows if len(row[0]) < len(found[0])]
    return [None], rows


class IsForcedTest(unittest.TestCase):

    def holds_forced(self, rules, string, pair, holds, listed):
        told = is_forced(rules, string, pair, holds)
        self.assertIs(told, plain_forced(listed, pair, holds), (rules, string, pair, holds))

    def test_by_lists(self):
        for rules in ALL_RULES:
            for string in some_texts(rules[0], 4, 2) + some_texts(rules[0], 5, 1) + ["", rules[0] * 2]:
                listed = listed_with_worths(rules, string)
                pairs = all_pairs(string)
                for pair in pairs:
                    for held in [()] + [(other,) for other in pairs]:
                        for free in all_sets(string, ()):
                            if len(free) < 3:
                                self.holds_forced(rules, string, pair, (free, held), listed)

    def test_eight_letters(self):
        for rules, string in EIGHT:
            listed = listed_with_worths(rules, string)
            for at, pair in enumerate(all_pairs(string)):
                for free in ((), (at % 8,), tuple(sorted({at % 8, at * 3 % 8, 5}))):
                    self.holds_forced(rules, string, pair, (free, ()), listed)

    def test_by_hand(self):
        for string, pair, holds, due in (
            ("ab", (0, 1), ((), ()), True), ("ab", (0, 1), ((0,), ()), False), ("aabb", (0, 3), ((), ()), True),
            ("aabb", (1, 2), ((), ()), True), ("aabb", (0, 2), ((), ()), False), ("aabb", (0, 2), ((3,), ()), False),
            ("aabb", (0, 2), ((1, 3), ()), True), ("aabb", (0, 1), ((), ()), False), ("abb", (0, 1), ((), ()), False),
            ("abb", (0, 1), ((2,), ()), True), ("abb", (0, 1), ((), ((0, 1),)), True), ("aba", (1, 2), ((), ()), False),
            ("aba", (1, 2), ((), ((1, 2),)), True), ("aba", (1, 2), ((), ((0, 1), (1, 2))), False),
            ("aba", (1, 2), ((1,), ((1, 2),)), False), ("aa", (0, 1), ((), ((0, 1),)), False),
        ):
            handed = {"rules": AB, "string": string, "pair": pair, "holds": holds}
            self.assertIs(ask_both_ways(self, is_forced, **handed), due, handed)

    def test_as_much_without_it(self):
        rules = rules_of("a", pairs=(("aa", 0),))
        self.assertIs(is_forced(rules, "aa", (0, 1), ((), ())), False)
        self.assertIs(is_forced(rules, "aa", (0, 1), ((), ((0, 1),))), True)

    def test_twelve_letters(self):
        listed = listed_with_worths(ODD, "abacbaabcbab")
        for at, pair in enumerate(all_pairs("abacbaabcbab")[::3]):
            self.holds_forced(ODD, "abacbaabcbab", pair, ((at % 12,), ()), listed)


class ForcingTest(unittest.TestCase):

    def holds_forcing(self, rules, string, pair, listed):
        told = ask_both_ways(self, forcing, rules=rules, string=string, pair=pair)
        found, rows = plain_answers(listed, string, pair)
        self.assertEqual((type(told), len(told), type(told[1])), (tuple, 2, list))
        self.assertIn(told[0], found, (rules, string, pair))
        self.assertEqual([row[0] for row in told[1]], [places for places, others in rows], (rules, string, pair))
        for (places, folding), (due, others) in zip(told[1], rows):
            self.assertIn(folding, others)
        self.assertIs(ask_both_ways(self, lets_forcing, rules=rules, string=string, pair=pair, thing=told), True)
        for places in found:
            for at in (0, -1):
                thing = (places, [(due, others[at]) for due, others in rows])
                self.assertIs(lets_forcing(rules, string, pair, thing), True, (rules, string, pair, thing))

    def test_all_pairs_of_short_strings(self):
        for rules in ALL_RULES:
            for length in (2, 3, 4, 5):
                for string in some_texts(rules[0], length, 3):
                    listed = listed_with_worths(rules, string)
                    for pair in all_pairs(string):
                        self.holds_forcing(rules, string, pair, listed)

    def test_eight_letters(self):
        for rules, string in EIGHT:
            listed = listed_with_worths(rules, string)
            for pair in all_pairs(string):
                if rules != NO_PAIRS or pair[0] == 0:
                    self.holds_forcing(rules, string, pair, listed)

    def test_by_hand(self):
        for string, pair, told in (
            ("ab", (0, 1), ((), [])),
            ("aa", (0, 1), (None, [((), ())])),
            ("aab", (0, 2), ((1,), [((), ((1, 2),))])),
            ("aba", (1, 2), ((0,), [((), ((0, 1),))])),
            ("aba", (0, 2), (None, [((), ((0, 1),)), ((1,), ())])),
        ):
            self.assertEqual(forcing(AB, string, pair), told)

    def test_a_pair_that_may_not_pair(self):
        for rules, string, pair in ((AB, "aabb", (0, 1)), (SPANNED, "ab", (0, 1)), (NO_PAIRS, "abab", (1, 2))):
            places, paper = forcing(rules, string, pair)
            self.assertIsNone(places)
            self.assertEqual([row[0] for row in paper], all_sets(string, pair))
            self.assertIs(lets_forcing(rules, string, pair, (places, paper)), True)

    def test_what_is_told_is_the_askers_own(self):
        for rules, string, pair in ((ODD, "abacba", (0, 3)), (AB, "aab", (0, 2)), (AB, "ab", (0, 1))):
            told = forcing(rules, string, pair)
            before = list(told[1])
            told[1].append(None)
            told[1][0] = 5
            self.assertEqual(forcing(rules, string, pair), (told[0], before))

    def test_plain_kinds(self):
        self.assertEqual(kinds_in(forcing(AB, "aab", (0, 2))), {tuple, list, int})

    def test_names(self):
        self.assertEqual(names_of(is_forced), (["rules", "string", "pair", "holds"], {}))
        self.assertEqual(names_of(forcing), (["rules", "string", "pair"], {}))
        self.assertEqual(names_of(lets_forcing), (["rules", "string", "pair", "thing"], {}))
        for tell in (is_forced, forcing, lets_forcing):
            self.assertEqual(tell.__module__, forcing_file.__name__)


class LetsForcingTest(unittest.TestCase):

    def refuses(self, rules, string, pair, things):
        for thing in things:
            self.assertIs(lets_forcing(rules, string, pair, thing), False, (rules, string, pair, thing))

    def bent(self, string, pair, places, paper):
        yield from ([places, paper], (places,), (places, paper, None), (paper, places), (places, tuple(paper)), paper)
        yield from ((places, paper + [((), ())]), (places, None), (places, {}), (places, dict(paper)), (places, [paper]))
        if places is None:
            yield from (((), []), ((), paper), ([], paper), (False, paper), (pair, paper), ((0,), paper))
        else:
            yield from ((None, paper), (list(places), paper), (places + (9,), paper))
            yield from ((places + (pair[0],), paper), (tuple(sorted(places + pair)), paper), (str(places), paper))
            if places:
                yield from ((places + places, paper), (places[1:], paper), ((), []))
            if len(places) > 1:
                yield (places[::-1], paper)
        if len(paper) > 1:
            yield (places, paper[::-1])
        for at, (chosen, folding) in enumerate(paper):
            rest = paper[:at], paper[at + 1:]
            yield (places, rest[0] + rest[1])
            yield (places, rest[0] + paper[at:at + 1] + paper[at:])
            for row in (
                (chosen,), [chosen, folding], (chosen, folding, None), (folding, chosen, 0), None, chosen + (0,),
                (list(chosen), folding), (chosen, list(folding)), (chosen, None), (chosen, (pair,)), (chosen, "...."),
                (chosen + (9,), folding), (chosen, ((0, 0),)), (chosen, folding + folding + (pair,)), 5, "ab", True,
            ):
                yield (places, rest[0] + [row] + rest[1])
            if at + 1 < len(paper):
                yield (places, rest[0] + [paper[at + 1], paper[at]] + rest[1][1:])

    def test_bent_papers(self):
        for rules, string, pair in (
            (ODD, "abacba", (0, 5)), (ODD, "abacba", (0, 3)), (AB, "aab", (0, 2)), (AB, "aabbab", (0, 2)),
            (AB, "aabb", (0, 1)), (ONE_LETTER, "aaaaaa", (0, 3)), (DEAR, "abab", (0, 3)), (AB, "ab", (0, 1)),
        ):
            places, paper = forcing(rules, string, pair)
            self.assertIs(lets_forcing(rules, string, pair, (places, paper)), True)
            self.refuses(rules, string, pair, self.bent(string, pair, places, paper))

    def test_each_folding_in_each_row(self):
        for rules, string in ((ODD, "abacb"), (ONE_LETTER, "aaaaa"), (FORKING, "aabab"), (AB, "aabab")):
            listed = listed_with_worths(rules, string)
            for pair in all_pairs(string):
                places, paper = forcing(rules, string, pair)
                rows = plain_answers(listed, string, pair)[1]
                for at, (chosen, others) in enumerate(rows):
                    for worth, folding in listed:
                        thing = (places, paper[:at] + [(chosen, folding)] + paper[at + 1:])
                        told = lets_forcing(rules, string, pair, thing)
                        self.assertIs(told, folding in others, (rules, string, pair, thing))

    def test_all_sets_as_places(self):
        for rules, string in ((ODD, "abacb"), (ONE_LETTER, "aaaaa"), (AB, "aabab"), (AB, "abbba")):
            listed = listed_with_worths(rules, string)
            for pair in all_pairs(string):
                found, rows = plain_answers(listed, string, pair)
                paper = forcing(rules, string, pair)[1]
                for places in [None] + all_sets(string, ()):
                    # The paper that would do for so many places, as far as there is one.
                    size = 99 if places is None else len(places)
                    for told in (paper, [row for row in paper if len(row[0]) < size]):
                        due = places in found
                        self.assertIs(lets_forcing(rules, string, pair, (places, told)), due, (string, pair, places))

    def test_more_places_than_needed(self):
        self.assertIs(lets_forcing(AB, "abb", (0, 1), ((2,), [((), ((0, 2),))])), True)
        self.refuses(AB, "ab", (0, 1), [((0,), []), ((1,), [])])
        self.assertEqual(forcing(AB, "abaa", (0, 1))[0], ())
        for paper in ([], [((), ((0, 1),))], [((), ())], [((), ((1, 2),))], [((), ((1, 3),))]):
            self.refuses(AB, "abaa", (0, 1), [((2,), paper), ((3,), paper)])

    def test_truths_for_numbers(self):
        good = ((1,), [((), ((1, 2),))])
        self.assertIs(lets_forcing(AB, "aab", (0, 2), good), True)
        self.refuses(AB, "aab", (0, 2), [((True,), good[1]), ((1,), [((), ((True, 2),))]), ((1,), [(False, ((1, 2),))])])
        places, paper = forcing(AB, "aabb", (2, 3))
        self.assertIsNone(places)
        self.assertEqual(paper[1][0], (0,))
        self.assertEqual(paper[2][0], (1,))
        self.refuses(AB, "aabb", (2, 3), [
            (None, paper[:1] + [((False,), paper[1][1])] + paper[2:]),
            (None, paper[:2] + [((True,), paper[2][1])] + paper[3:]),
        ])

    def test_whatever(self):
        for string, pair in (("ab", (0, 1)), ("aab", (0, 2)), ("aabb", (0, 1))):
            self.refuses(AB, string, pair, WHATEVER)
            self.refuses(AB, string, pair, [(thing, []) for thing in WHATEVER])
            self.refuses(AB, string, pair, [((), thing) for thing in WHATEVER if thing != []])
            self.refuses(AB, string, pair, [(None, thing) for thing in WHATEVER])
            self.refuses(AB, string, pair, [(None, [thing]) for thing in WHATEVER])


if __name__ == "__main__":
    unittest.main()
