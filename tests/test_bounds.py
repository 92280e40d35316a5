import copy
import unittest

from pairfolds import bounds as bounds_file
from pairfolds.bounds import lets_bounds
from pairfolds.least import least_worth, table_of
from tests.helper import ALL_RULES, CHEAP, FORKING, ODD, ONE_LETTER, SPANNED, WHATEVER, WIDE, NO_WORTH
from tests.helper import are_plain_bounds, ask_both_ways, bounds_by, names_of, plain_table, plain_ways, strings_for

CASES = (
    (ODD, ""), (ODD, "a"), (ODD, "ab"), (ODD, "aabb"), (ODD, "cbaab"), (ODD, "aababb"), (SPANNED, "abacb"), (WIDE, "ababab"),
    (ONE_LETTER, "aaaaa"), (FORKING, "aababb"), (CHEAP, "abbab"),
)
# In turn the worths of rows without a way.
CHOICES = ((-3, 0, 7), (-200,), (10 ** 30, -10 ** 30), (0,), (5, -40, 1000, -7, 12), (None, -60), (None, 3, None, 100))


def with_worth(table, at, worth):
    return table[:at] + [table[at][:3] + (worth,)] + table[at + 1:]


def least_by(rules, string, table, at):
    rows = {row[:3]: row[3] for row in table}
    return min(plain_ways(rules, string, rows, table[at][:3]), default=NO_WORTH)


class LetsBoundsTest(unittest.TestCase):

    def test_the_told_table(self):
        for rules in ALL_RULES:
            for string in strings_for(rules):
                table = ask_both_ways(self, table_of, rules=rules, string=string)
                told = ask_both_ways(self, lets_bounds, rules=rules, string=string, thing=table)
                self.assertIs(told, True, (rules, string))

    def test_the_table_of_a_list(self):
        for rules, string in CASES:
            self.assertIs(lets_bounds(rules, string, plain_table(rules, string)), True)

    def test_twelve_letters(self):
        for rules, string in ((ODD, "abacbaabcbab"), (WIDE, "aaabbbaaabbb"), (ONE_LETTER, "a" * 12)):
            self.assertIs(lets_bounds(rules, string, table_of(rules, string)), True)

    def test_one_more_than_a_way(self):
        for rules, string in CASES:
            table = table_of(rules, string)
            for at, row in enumerate(table):
                if row[3] is not None:
                    self.assertIs(lets_bounds(rules, string, with_worth(table, at, row[3] + 1)), False, row)
                    self.assertIs(lets_bounds(rules, string, with_worth(table, at, None)), False, row)

    def test_each_row_at_other_worths(self):
        for rules, string in CASES:
            table = table_of(rules, string)
            for at, row in enumerate(table):
                for worth in (-500, -1, 0, 1, 500, None):
                    changed = with_worth(table, at, worth)
                    fits = are_plain_bounds(rules, string, changed)
                    self.assertIs(lets_bounds(rules, string, changed), fits, (rules, string, changed[at]))

    def test_rows_without_a_way_at_any_worth(self):
        for rules, string in CASES:
            for chosen in CHOICES:
                table = bounds_by(rules, string, chosen)
                self.assertIs(are_plain_bounds(rules, string, table), True)
                self.assertIs(lets_bounds(rules, string, table), True, (rules, string, chosen))
                self.each_row_one_more(rules, string, table)

    def each_row_one_more(self, rules, string, table):
        for at, row in enumerate(table):
            least = least_by(rules, string, table, at)
            if least != NO_WORTH:
                self.assertIs(lets_bounds(rules, string, with_worth(table, at, least + 1)), False, (string, row))

    def test_by_bounds_open_of_0_is_no_more_than_the_least(self):
        for rules, string in CASES:
            for chosen in CHOICES:
                rows = {row[:3]: row[3] for row in bounds_by(rules, string, chosen)}
                self.assertLessEqual(rows["open", 0, len(string) - 1], least_worth(rules, string))

    def test_lesser_ones(self):
        for rules, string in CASES:
            # Lesser by ten for each place, so that no row is more than the ways by the rows within it.
            lesser = [
                (kind, i, j, None if worth is None else worth - 10 * (j - i + 1))
                for kind, i, j, worth in table_of(rules, string)
            ]
            self.assertIs(are_plain_bounds(rules, string, lesser), True)
            self.assertIs(lets_bounds(rules, string, lesser), True, string)

    def test_none_by_the_end(self):
        self.assertIs(lets_bounds(ODD, "", [("open", 0, -1, 0)]), True)
        self.assertIs(lets_bounds(ODD, "", [("open", 0, -1, -10 ** 60)]), True)
        for worth in (1, None, True, False, "0", (), [0]):
            self.assertIs(lets_bounds(ODD, "", [("open", 0, -1, worth)]), False, worth)

    def test_a_row_left_out_or_twice_or_exchanged(self):
        for rules, string in CASES:
            table = table_of(rules, string)
            for at, row in enumerate(table):
                self.assertIs(lets_bounds(rules, string, table[:at] + table[at + 1:]), False)
                self.assertIs(lets_bounds(rules, string, table[:at] + [row] + table[at:]), False)
                if at > 0:
                    swapped = table[:at - 1] + [row, table[at - 1]] + table[at + 1:]
                    self.assertIs(lets_bounds(rules, string, swapped), False)
                    doubled = table[:at - 1] + [row, row] + table[at + 1:]
                    self.assertIs(lets_bounds(rules, string, doubled), False)

    def test_one_row_more(self):
        for rules, string in CASES:
            table, size = table_of(rules, string), len(string)
            for row in (("open", size + 1, size - 1, 0), ("shut", 0, 0, None), ("zero", 0, 0, 0), ("one", 1, 0, None)):
                self.assertIs(lets_bounds(rules, string, sorted(table + [row], key=lambda it: it[:3])), False)

    def test_of_another_kind(self):
        table = table_of(ODD, "aabb")
        for at, (kind, i, j, worth) in enumerate(table):
            others = (
                [kind, i, j, worth], (kind, i, j), (kind, i, j, worth, 0), (kind + "s", i, j, worth), (kind, i + 1, j, worth),
                (kind, i, j + 1, worth), (None, i, j, worth), (kind, str(i), j, worth), (kind, i, (j,), worth), None, (), {},
                (kind, i, j, str(worth)), (kind, i, j, True), (kind, i, j, False), (kind, i, j, (worth,)), (kind, i, j, []),
                ((kind,), i, j, worth), (kind, i, None, worth), kind, 7, (kind, i, j, {}), (kind, -i - 1, j, worth),
            )
            for other in others:
                self.assertIs(lets_bounds(ODD, "aabb", table[:at] + [other] + table[at + 1:]), False, other)

    def test_truths_are_no_places_and_no_worths(self):
        for rules, string in CASES:
            table = table_of(rules, string)
            for at, (kind, i, j, worth) in enumerate(table):
                others = [(kind, bool(i), j, worth)] if i in (0, 1) else []
                others += [(kind, i, bool(j), worth)] if j in (0, 1) else []
                others += [(kind, i, j, False), (kind, i, j, True)]
                for other in others:
                    self.assertIs(lets_bounds(rules, string, table[:at] + [other] + table[at + 1:]), False, other)

    def test_whatever_else(self):
        for rules, string in CASES:
            table = table_of(rules, string)
            wrong = (tuple(table), {row[:3]: row[3] for row in table}, [table], [list(row) for row in table], [], "", ())
            for thing in WHATEVER + wrong:
                self.assertIs(lets_bounds(rules, string, thing), False, thing)

    def test_of_another_string(self):
        self.assertIs(lets_bounds(ODD, "aabb", table_of(ODD, "aab")), False)
        self.assertIs(lets_bounds(ODD, "aab", table_of(ODD, "aabb")), False)
        self.assertIs(lets_bounds(ODD, "aabb", table_of(ODD, "cccc")), False)

    def test_no_string_is_not_refused(self):
        for thing in WHATEVER + ("abd", "a" * 13):
            self.assertIs(lets_bounds(ODD, thing, [("open", 0, -1, 0)]), False)

    def test_what_is_handed_in_stays(self):
        table = table_of(ODD, "aabb")
        before = copy.deepcopy(table)
        lets_bounds(rules=ODD, string="aabb", thing=table)
        self.assertEqual(table, before)

    def test_names(self):
        self.assertEqual(names_of(lets_bounds), (["rules", "string", "thing"], {}))
        self.assertEqual(lets_bounds.__module__, bounds_file.__name__)


if __name__ == "__main__":
    unittest.main()
