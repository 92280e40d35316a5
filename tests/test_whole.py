"""What point 3 of the document promises over the whole program, on drawn rules and strings of all sizes."""

import random
import unittest
from fractions import Fraction

from pairfolds.bounds import lets_bounds
from pairfolds.counts import all_foldings, by_worths, how_many
from pairfolds.crossed import all_crossed, crossing_wins, is_crossed, least_crossed
from pairfolds.desk import Desk
from pairfolds.foldings import brackets, is_folding, pairs_in
from pairfolds.forcing import forcing, is_forced, lets_forcing
from pairfolds.holds import are_holds, least_held
from pairfolds.keep import Keep
from pairfolds.least import least_folding, least_worth, table_of
from pairfolds.loops import worth_of
from pairfolds.machine import run_by_tables
from pairfolds.near import gap, how_near, kinds, near
from pairfolds.nicked import held_worth, how_many_held, is_held, least_together, won
from pairfolds.numbers import folding_of, number_of
from pairfolds.programs import is_program
from pairfolds.reader import read_folding, read_program, read_rules
from pairfolds.ridges import lets_way, ridge, steps_from
from pairfolds.rules import is_rules, rules_of
from pairfolds.strings import is_string
from pairfolds.texts import show_program, show_rules
from pairfolds.walker import walked
from pairfolds.walls import wall, wall_holds
from pairfolds.weights import free_shares, pair_shares, weight
from pairfolds.wishes import against, lets_against, wished
from tests.helper import ALL_RULES, bounds_by, every_folding, plain_worth, some_program, some_rules


def some_string(draw, rules, length):
    return "".join(draw.choice(rules[0]) for place in range(length))


def all_rules(draw, many, most_letters=6):
    """The least and the greatest rules that can be, those of all tests, and drawn ones."""
    texts = [first + second for first in "abcdef" for second in "abcdef"]
    stacks = [(outer, within) for outer in texts[:12] for within in texts[:12]]
    greatest = rules_of(
        "abcdef", pairs=[(text, -99) for text in texts[:12]], span=0, loops=[-99] * 9, stacks=[row + (-99,) for row in stacks[:12]],
    )
    fixed = (rules_of("a"), greatest) + ALL_RULES
    return [rules for rules in fixed if len(rules[0]) <= most_letters] + [some_rules(draw, most_letters) for at in range(many)]


class WholeTest(unittest.TestCase):

    def cases(self, seed, many, most, most_letters=6):
        """Rules with strings of each length from none to so many letters."""
        draw = random.Random(seed)
        for rules in all_rules(draw, many, most_letters):
            self.assertTrue(is_rules(rules))
            for length in range(most + 1):
                string = some_string(draw, rules, length)
                self.assertTrue(is_string(rules, string))
                yield draw, rules, string

    def test_the_least_worth_has_a_folding_and_bounds(self):
        for draw, rules, string in self.cases(1, 12, 12):
            least, folding = least_worth(rules, string), least_folding(rules, string)
            self.assertTrue(is_folding(rules, string, folding))
            self.assertEqual(worth_of(rules, string, folding), least)
            table = table_of(rules, string)
            self.assertIs(lets_bounds(rules, string, table), True)
            self.assertIn(("open", 0, len(string) - 1, least), table)
            for at in (draw.randrange(len(table)), table.index(("open", 0, len(string) - 1, least))):
                if table[at][3] is not None:
                    higher = table[:at] + [table[at][:3] + (table[at][3] + 1,)] + table[at + 1:]
                    self.assertIs(lets_bounds(rules, string, higher), False)

    def test_bounds_of_any_maker_show_that_none_has_less(self):
        for draw, rules, string in self.cases(2, 6, 7):
            for turn in range(3):
                table = bounds_by(rules, string, [draw.randint(-999, 999) for row in range(5)])
                self.assertIs(lets_bounds(rules, string, table), True)
                bound = [row[3] for row in table if row[:2] == ("open", 0)][0]
                self.assertLessEqual(bound, least_worth(rules, string))

    def test_each_folding_is_met_just_once(self):
        for draw, rules, string in self.cases(3, 8, 10):
            listed = all_foldings(rules, string)
            self.assertEqual(listed, sorted(set(listed)))
            self.assertTrue(all(is_folding(rules, string, folding) for folding in listed))
            self.assertEqual(len(listed), how_many(rules, string))
            self.assertEqual(len(listed), sum(many for worth, many in by_worths(rules, string)))
            for number in {0, len(listed) - 1, len(listed) // 2, draw.randrange(len(listed))}:
                self.assertEqual(folding_of(rules, string, number), listed[number])
                self.assertEqual(number_of(rules, string, listed[number]), number)
            if len(string) <= 7:
                self.assertEqual(listed, every_folding(rules, string))

    def test_shares_are_sums_over_all_foldings(self):
        for draw, rules, string in self.cases(4, 6, 8):
            base = draw.choice(((1, 1), (1, 2), (3, 1), (2, 3), (10, 9)))
            weighed = [
                (Fraction(*base) ** plain_worth(rules, string, folding), folding) for folding in all_foldings(rules, string)
            ]
            total = Fraction(*weight(rules, string, base=base))
            self.assertEqual(total, sum(one for one, folding in weighed))
            free = [Fraction(*share) for share in free_shares(rules, string, base=base)]
            sums = list(free)
            for i, j, share in pair_shares(rules, string, base=base):
                due = sum(one for one, folding in weighed if (i, j) in folding)
                self.assertEqual(Fraction(*share), due / total)
                sums[i] += Fraction(*share)
                sums[j] += Fraction(*share)
            self.assertEqual(sums, [1] * len(string))

    def test_what_lies_within_is_all_that_does(self):
        for draw, rules, string in self.cases(5, 6, 9):
            least, more = least_worth(rules, string), draw.choice((0, 1, 10, 100))
            worths = {folding: plain_worth(rules, string, folding) for folding in all_foldings(rules, string)}
            within = sorted((worth, folding) for folding, worth in worths.items() if worth <= least + more)
            self.assertEqual(near(rules, string, more=more), within)
            self.assertEqual(how_near(rules, string, more=more), len(within))
            self.assertTrue(set(kinds(rules, string, more=more)) <= {folding for worth, folding in within})
            above = [worth for worth in worths.values() if worth > least]
            self.assertEqual(gap(rules, string), min(above, default=None))

    def test_strings_fold_as_wished(self):
        draw = random.Random(6)
        for rules in all_rules(draw, 12, 3):
            for wish in (".", "()", "(.)", "(())", "()()", "(..)", "((.))", "(.).", "(()())", "......", "(()..)"):
                if len(rules[0]) ** len(wish) > 100:
                    continue
                for alone in (False, True):
                    self.holds_wish(rules, wish, alone)

    def holds_wish(self, rules, wish, alone):
        told, paper = wished(rules, wish, alone=alone), against(rules, wish, alone=alone)
        if told is None:
            self.assertIs(lets_against(rules, wish, paper, alone=alone), True)
            for string, folding in paper:
                asked = pairs_in(wish)
                stands = is_folding(rules, string, asked)
                self.assertEqual(folding is None, not stands)
                if stands:
                    self.assertNotEqual(folding, asked)
                    most = worth_of(rules, string, asked) - (0 if alone else 1)
                    self.assertLessEqual(worth_of(rules, string, folding), most)
            return
        self.assertIsNone(paper)
        leasts = [folding for worth, folding in near(rules, told)]
        self.assertIn(pairs_in(wish), leasts)
        self.assertTrue(not alone or len(leasts) == 1)

    def test_ridges_have_ways_and_walls(self):
        for draw, rules, string in self.cases(7, 4, 6):
            listed = all_foldings(rules, string)
            for turn in range(2):
                folding, other = draw.choice(listed), draw.choice(listed)
                height, way = ridge(rules, string, folding, other)
                self.assertIs(lets_way(rules, string, folding, other, way), True)
                self.assertEqual(max(worth_of(rules, string, met) for met in way), height)
                self.assertTrue(all(after in steps_from(rules, string, met) for met, after in zip(way, way[1:])))
                shown = wall(rules, string, folding, other)
                self.assertIs(wall_holds(rules, string, folding, other, height, shown), True)
                self.assertIs(wall_holds(rules, string, folding, other, height + 1, shown), False)

    def test_holds_and_forcing(self):
        for draw, rules, string in self.cases(8, 4, 6):
            held = tuple(pair for pair in draw.choice(all_foldings(rules, string)) if draw.random() < 0.5)
            holds = ((), held)
            self.assertIs(are_holds(rules, string, holds), True)
            worth, folding = least_held(rules, string, holds)
            self.assertEqual(worth_of(rules, string, folding), worth)
            self.assertTrue(set(held) <= set(folding))
            self.assertEqual(least_held(rules, string, ((), ()))[0], least_worth(rules, string))
            for pair in held:
                self.assertIs(is_forced(rules, string, pair, holds), True)
            if len(string) > 1:
                pair = tuple(sorted(draw.sample(range(len(string)), 2)))
                self.assertIs(lets_forcing(rules, string, pair, forcing(rules, string, pair)), True)

    def test_two_strings_and_stretches(self):
        for draw, rules, string in self.cases(9, 6, 10):
            nick = draw.randint(0, len(string))
            first, second = string[:nick], string[nick:]
            worth, folding = least_together(rules, first, second)
            self.assertIs(is_held(rules, first, second, folding), True)
            self.assertEqual(held_worth(rules, first, second, folding), worth)
            self.assertGreaterEqual(won(rules, first, second), 0)
            self.assertGreaterEqual(how_many_held(rules, first, second), how_many(rules, string))
            self.assertEqual(least_together(rules, string, "")[0], least_worth(rules, string))
            self.assertEqual(how_many_held(rules, "", string), how_many(rules, string))
            listed = all_crossed(rules, string, cross=5)
            self.assertTrue(all(is_crossed(rules, string, crossed) for crossed_worth, crossed in listed))
            self.assertEqual(least_crossed(rules, string, cross=5), listed[0] if listed else None)
            wins = bool(listed) and listed[0][0] < least_worth(rules, string)
            self.assertIs(crossing_wins(rules, string, cross=5), wins)

    def test_kept_tables_are_those_of_a_fresh_one(self):
        for draw, rules, string in self.cases(10, 6, 11):
            keep = Keep(rules, string)
            keep.least()
            keep.put(draw.choice(rules[0]), at_end=draw.random() < 0.5)
            keep.letter(draw.randrange(len(keep)), draw.choice(rules[0]))
            fresh = Keep(keep.rules(), keep.string())
            self.assertEqual((keep.least(), keep == fresh), (fresh.least(), True))
            self.assertTrue(set(keep.rows()) <= set(table_of(rules, keep.string())))
            self.assertTrue(set(fresh.rows()) <= set(keep.rows()))
            self.assertEqual(keep.least(), least_worth(rules, keep.string()))

    def test_the_walker_and_the_machine_tell_the_same(self):
        draw = random.Random(11)
        for rules in all_rules(draw, 40):
            for turn in range(3):
                program = some_program(draw, letters=rules[0] + rules[0] + "z")
                self.assertIs(is_program(program), True)
                self.assertEqual(repr(walked(rules, program)), repr(run_by_tables(rules, program)))

    def test_what_is_written_is_read_back(self):
        for draw, rules, string in self.cases(12, 10, 8):
            self.assertEqual(read_rules(show_rules(rules)), rules)
            program = some_program(draw)
            self.assertEqual(read_program(show_program(program)), program)
            folding = draw.choice(all_foldings(rules, string))
            self.assertEqual(read_folding(rules, string, brackets(string, folding)), folding)
            self.assertEqual(pairs_in(brackets(string, folding)), folding)

    def test_a_desk_tells_what_the_others_do(self):
        for draw, rules, string in self.cases(13, 6, 10):
            desk = Desk()
            self.assertEqual(desk.say("rules\n" + show_rules(rules)), "ok")
            self.assertEqual(desk.say("string " + string if string else "string"), "ok")
            self.assertEqual(desk.say("least"), str(least_worth(rules, string)))
            self.assertEqual(desk.say("count"), str(how_many(rules, string)))
            fold = pairs_in(desk.say("fold"))
            self.assertEqual(worth_of(rules, string, fold), least_worth(rules, string))
            number = draw.randrange(how_many(rules, string))
            text = desk.say(f"brackets {number}")
            self.assertEqual(text, brackets(string, folding_of(rules, string, number)))
            self.assertEqual(desk.say("number " + text if text else "number"), str(number))
            program = some_program(draw, letters=rules[0])
            told = " ".join(str(thing) for thing in run_by_tables(rules, program)) or "-"
            self.assertEqual(desk.say("run\n" + show_program(program)), told)


if __name__ == "__main__":
    unittest.main()
