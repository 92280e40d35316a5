"""Holds and forcing asked many times of strings of twelve letters: rightly, and in good time."""

import random
import time
import unittest

from pairfolds.forcing import is_forced
from pairfolds.holds import least_held
from tests.helper import CHEAP, FORKING, ODD, ONE_LETTER, SPANNED, WIDE, listed_with_worths, some_rules

LOOPS = (-3, 1, 0, 2, 0, 0, 3, 0, 0)
LIKE = ("a", (("aa", -1),), 0, LOOPS, ())
UNLIKE = ("ab", (("aa", -1), ("ab", -2), ("ba", -1), ("bb", -3)), 0, LOOPS, (("ab", "ab", -1),))
TWELVE = ((LIKE, "aaaaaaaaaaaa"), (UNLIKE, "abababababab"))
OTHERS = (
    (ONE_LETTER, "aaaaaaaaaaaa"), (ODD, "abacbaabcbab"), (SPANNED, "abacabcbabbc"), (WIDE, "aababbabbaab"),
    (FORKING, "aaababbababb"), (CHEAP, "aababbabbaab"),
)
# Two askings of each of the holds: with a table of all ways they take some twenty seconds, without one less than one.
MANY_HOLDS = 1000
SECONDS = 6


class Listed:
    """All foldings of a string with their worths, rising, each with a number for its pairs and one for its places."""

    def __init__(self, rules, string):
        self.rules, self.string = rules, string
        self.bits = {(i, j): 1 << (i * 16 + j) for j in range(len(string)) for i in range(j)}
        listed = listed_with_worths(rules, string)
        self.rows = [(worth, folding, self.pairs_in(folding), self.places_in(folding)) for worth, folding in listed]

    def pairs_in(self, pairs):
        return sum(self.bits[pair] for pair in pairs)

    def places_in(self, pairs):
        return sum(1 << place for pair in pairs for place in pair)

    def least(self, holds):
        """All least foldings of those that keep the holds, with their worths."""
        free = sum(1 << place for place in holds[0])
        held = self.pairs_in(holds[1])
        kept = [row for row in self.rows if row[3] & free == 0 and row[2] & held == held]
        return [row[:2] for row in kept if row[0] == kept[0][0]]

    def some_holds(self, draw):
        """Holds that some folding keeps."""
        folding = draw.choice(self.rows)[1]
        pairs = tuple(pair for pair in folding if draw.random() < 0.4)
        taken = [place for pair in pairs for place in pair]
        places = [place for place in range(len(self.string)) if place not in taken]
        return tuple(sorted(draw.sample(places, draw.randint(0, min(4, len(places)))))), pairs

    def some_pair(self, draw, least):
        """A pair of a least folding, or any two places."""
        folding = draw.choice(least)[1]
        if folding and draw.random() < 0.7:
            return draw.choice(folding)
        return draw.choice(list(self.bits)) if self.bits else (0, 1)


class AskingsTest(unittest.TestCase):

    def ask(self, listed, many, seed):
        """Asks and holds against the list; tells how long the askings took, and how many pairs were forced."""
        draw = random.Random(seed)
        taken = found = 0
        for turn in range(many):
            holds = listed.some_holds(draw)
            least = listed.least(holds)
            pair = listed.some_pair(draw, least)
            began = time.process_time()
            told = least_held(listed.rules, listed.string, holds)
            forced = is_forced(listed.rules, listed.string, pair, holds)
            taken += time.process_time() - began
            self.assertIn(told, least, (listed.rules, listed.string, holds))
            due = all(pair in folding for worth, folding in least)
            self.assertIs(forced, due, (listed.rules, listed.string, pair, holds))
            found += due
        return taken, found

    def test_twelve_letters_many_times(self):
        total = 0
        for rules, string in TWELVE:
            taken, found = self.ask(Listed(rules, string), MANY_HOLDS, string)
            self.assertTrue(MANY_HOLDS // 10 < found < MANY_HOLDS)
            total += taken
        self.assertLess(total, SECONDS)

    def test_other_strings_of_twelve_letters(self):
        for rules, string in OTHERS:
            self.ask(Listed(rules, string), 100, string)

    def test_drawn_rules_and_strings_of_all_lengths(self):
        draw = random.Random(5)
        for turn in range(150):
            rules = some_rules(draw)
            string = "".join(draw.choice(rules[0]) for place in range(turn % 11))
            self.ask(Listed(rules, string), 10, turn)

    def test_held_pairs_that_are_dear(self):
        # However much more a folding with the held pairs is worth, they are there.
        rules = ("ab", (("aa", 99), ("ab", -99), ("bb", 99)), 0, (99, 99, 99, 99, 99, 99, 99, 99, 99), ())
        listed = Listed(rules, "aababb")
        for worth, folding, pairs, places in listed.rows:
            for pair in folding:
                least = listed.least(((), (pair,)))
                self.assertIn(least_held(rules, "aababb", ((), (pair,))), least)
                self.assertIs(is_forced(rules, "aababb", pair, ((), (pair,))), True)


if __name__ == "__main__":
    unittest.main()
