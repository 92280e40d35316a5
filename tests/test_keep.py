import copy
import random
import unittest

from pairfolds import keep as keep_file
from pairfolds.errors import FoldError, NoPlace, NoRules, NoString
from pairfolds.keep import Keep
from pairfolds.least import least_worth, table_of
from pairfolds.rules import rules_of
from tests.helper import ALL_RULES, NO_PAIRS, NO_WORTHS, ODD, ONE_LETTER, SPANNED, WHATEVER, WIDE
from tests.helper import can_pair, kinds_in, names_of, plain_table, refuses_no_string, some_rules, some_texts, stays_as_told

AB = rules_of("ab", pairs=(("ab", -3),))
NO_PLACES = [thing for thing in WHATEVER if type(thing) is not int] + [-1, -2, 10 ** 99, -10 ** 99, 4, "0", (0,), [0]]
NO_LETTERS = WHATEVER + ("", "aa", "ab", "d", "A", 0, 1, None, ["a"], ("a",), "\n", "a ")


def spoken_of(rules, string, row):
    """The rows of which point 8 speaks in the ways of a row."""
    kind, i, j = row
    ends = range(i + 1, len(string))
    if kind == "shut":
        if not can_pair(rules, string, i, j):
            return []
        told = [("shut", p, q) for p in range(i + 1, j) for q in range(p + 1, j)] + [("two", i + 1, j - 1)]
    elif kind == "open":
        told = [("open", i + 1, j)] if i < len(string) else []
        for k in ends:
            told += [("shut", i, k), ("open", k + 1, j)]
        return told
    else:
        told = [(kind, i + 1, j)]
        for k in ends:
            if k <= j:
                told += [("shut", i, k)] + [("one", k + 1, j)]
    return [row for row in told if row[1] < row[2] or (row[1] == row[2] and row[0] != "shut")]


class Model:
    """What a keep has to tell: each place has a name that it keeps, and each row the names of its places."""

    def __init__(self, rules, string):
        self.rules, self.string = rules, string
        self.names = list(range(len(string)))
        self.fresh = 1000
        self.kept, self.made = set(), 0

    def call(self, row):
        kind, i, j = row
        return (kind, tuple(self.names[i:] if kind == "open" else self.names[i:j + 1]))

    def ask(self):
        waiting = [("open", 0, len(self.string) - 1)]
        while waiting:
            row = waiting.pop()
            if self.call(row) not in self.kept:
                self.kept.add(self.call(row))
                self.made += 1
                waiting += spoken_of(self.rules, self.string, row)

    def number(self, call):
        kind, names = call
        last = len(self.string) - 1
        if not names:
            return kind, last + 1, last
        return kind, self.names.index(names[0]), self.names.index(names[-1])

    def rows(self):
        worths = {row[:3]: row[3] for row in table_of(self.rules, self.string)}
        return sorted((self.number(call) + (worths[self.number(call)],) for call in self.kept), key=lambda row: row[:3])

    def without(self, *names):
        self.kept = {call for call in self.kept if not set(names) <= set(call[1])}

    def letter(self, place, letter):
        if letter != self.string[place]:
            self.without(self.names[place])
        self.string = self.string[:place] + letter + self.string[place + 1:]

    def without_open(self):
        self.kept = {call for call in self.kept if call[0] != "open"}

    def put(self, letter, at_end):
        self.fresh += 1
        if at_end:
            self.without_open()
            self.string, self.names = self.string + letter, self.names + [self.fresh]
        else:
            self.string, self.names = letter + self.string, [self.fresh] + self.names

    def take(self, at_end):
        self.without(self.names[-1 if at_end else 0])
        if at_end:
            self.without_open()
            self.string, self.names = self.string[:-1], self.names[:-1]
        else:
            self.string, self.names = self.string[1:], self.names[1:]

    def change(self, rules):
        if rules[3:] != self.rules[3:]:
            self.kept = set()
        before, after = dict(self.rules[1]), dict(rules[1])
        for q in range(len(self.string)):
            for p in range(q):
                text = self.string[p] + self.string[q]
                if before.get(text) != after.get(text):
                    self.without(self.names[p], self.names[q])
        self.rules = rules


class Pairing:
    """A keep and the model of it, told the same."""

    def __init__(self, test, rules, string):
        self.test, self.draw = test, None
        self.keep, self.model = Keep(rules, string), Model(rules, string)

    def look(self):
        keep, model = self.keep, self.model
        self.test.assertEqual((keep.rules(), keep.string(), len(keep)), (model.rules, model.string, len(model.string)))
        self.test.assertEqual(keep.rows(), model.rows(), (model.rules, model.string))
        self.test.assertEqual(keep.made(), model.made, (model.rules, model.string))
        self.test.assertTrue(keep == Keep(model.rules, model.string))

    def ask(self):
        self.model.ask()
        self.test.assertEqual(self.keep.least(), least_worth(self.model.rules, self.model.string))
        self.look()

    def letter(self, place, letter):
        self.test.assertIsNone(self.keep.letter(place, letter))
        self.model.letter(place, letter)
        self.look()

    def put(self, letter, at_end):
        self.test.assertIsNone(self.keep.put(letter, at_end=at_end))
        self.model.put(letter, at_end)
        self.look()

    def take(self, at_end):
        self.test.assertIsNone(self.keep.take(at_end=at_end))
        self.model.take(at_end)
        self.look()

    def change(self, **parts):
        self.test.assertIsNone(self.keep.change(**parts))
        now = self.model.rules
        told = {"pairs": now[1], "loops": now[3], "stacks": now[4]}
        told.update({name: parts[name] for name in parts if parts[name] is not None})
        self.model.change(rules_of(now[0], span=now[2], **told))
        self.look()


def drawn_pairs(draw, rules):
    """The pairs of rules with one of them changed, taken away or put in; those of stacks stay."""
    needed = {text for row in rules[4] for text in row[:2]}
    pairs = dict(rules[1])
    text = draw.choice(rules[0]) + draw.choice(rules[0])
    if text in pairs and text not in needed and draw.random() < 0.5:
        del pairs[text]
    elif text in pairs or len(pairs) < 12:
        pairs[text] = draw.randint(-99, 99)
    return sorted(pairs.items())


def drawn_change(draw, rules):
    choice = draw.random()
    if choice < 0.6:
        return {"pairs": drawn_pairs(draw, rules)}
    if choice < 0.7:
        return {"loops": [draw.randint(-9, 9) for word in range(9)]}
    if choice < 0.8:
        return {"stacks": rules[4][1:]}
    if choice < 0.9:
        return {"pairs": list(rules[1]), "loops": list(rules[3]), "stacks": list(rules[4])}
    return {"pairs": None, "loops": rules[3], "stacks": None}


class KeepTest(unittest.TestCase):

    def go(self, draw, both):
        """One deed that is drawn."""
        string, letters = both.model.string, both.model.rules[0]
        deed = draw.choice(("letter", "letter", "put", "put", "take", "change", "ask"))
        if deed == "letter" and string:
            both.letter(draw.randrange(len(string)), draw.choice(letters))
        elif deed == "put" and len(string) < 12:
            both.put(draw.choice(letters), draw.random() < 0.5)
        elif deed == "take" and string:
            both.take(draw.random() < 0.5)
        elif deed == "change":
            both.change(**drawn_change(draw, both.model.rules))
        else:
            both.ask()

    def test_drawn_deeds_asked_between(self):
        draw = random.Random(3)
        for turn in range(60):
            rules = ALL_RULES[turn % len(ALL_RULES)] if turn % 2 else some_rules(draw)
            string = "".join(draw.choice(rules[0]) for place in range(draw.randint(0, 10)))
            both = Pairing(self, rules, string)
            for deed in range(20):
                self.go(draw, both)
                both.ask()

    def test_drawn_deeds_not_asked_between(self):
        draw = random.Random(4)
        for turn in range(80):
            rules = ALL_RULES[turn % len(ALL_RULES)] if turn % 2 else some_rules(draw)
            string = "".join(draw.choice(rules[0]) for place in range(draw.randint(0, 12)))
            both = Pairing(self, rules, string)
            both.ask()
            for deed in range(25):
                self.go(draw, both)
            both.ask()

    def test_each_deed_behind_a_question(self):
        for rules in (ODD, SPANNED, WIDE, ONE_LETTER, NO_PAIRS):
            for string in ["", rules[0][0]] + some_texts(rules[0], 6, 1) + some_texts(rules[0], 11, 1):
                deeds = [lambda both: both.put(rules[0][-1], True), lambda both: both.put(rules[0][0], False)]
                deeds += [lambda both: both.change(pairs=rules[1][:-1], stacks=()), lambda both: both.change(stacks=())]
                deeds += [lambda both: both.change(loops=NO_WORTHS), lambda both: both.change()]
                if string:
                    deeds += [lambda both: both.take(True), lambda both: both.take(False)]
                for place in range(len(string)):
                    for letter in rules[0]:
                        deeds.append(lambda both, place=place, letter=letter: both.letter(place, letter))
                for deed in deeds:
                    both = Pairing(self, rules, string)
                    both.ask()
                    deed(both)
                    both.ask()
                    both.ask()

    def test_rows_are_those_of_the_table(self):
        for rules in ALL_RULES:
            for string in some_texts(rules[0], 7, 1) + ["", rules[0] * 2]:
                keep = Keep(rules, string)
                keep.least()
                table = plain_table(rules, string)
                self.assertTrue(set(keep.rows()) <= set(table))
                self.assertEqual(keep.least(), min(row[3] for row in table if row[:2] == ("open", 0)))

    def test_by_hand(self):
        keep = Keep(AB)
        self.assertEqual((keep.rules(), keep.string(), keep.made(), keep.rows(), len(keep)), (AB, "", 0, [], 0))
        self.assertEqual((keep.least(), keep.made(), keep.rows()), (0, 1, [("open", 0, -1, 0)]))
        keep.put("b")
        self.assertEqual((keep.string(), keep.made(), keep.rows()), ("b", 1, []))
        self.assertEqual((keep.least(), keep.made()), (0, 3))
        self.assertEqual(keep.rows(), [("open", 0, 0, 0), ("open", 1, 0, 0)])
        keep.put("a", at_end=False)
        self.assertEqual((keep.string(), keep.rows()), ("ab", [("open", 1, 1, 0), ("open", 2, 1, 0)]))
        # The open of 0, and the shut of 0 and 1: within it lie no places of two.
        self.assertEqual((keep.least(), keep.made()), (-3, 5))
        self.assertEqual(keep.rows(), [("open", 0, 1, -3), ("open", 1, 1, 0), ("open", 2, 1, 0), ("shut", 0, 1, -3)])
        keep.put("a", at_end=False)
        self.assertEqual([row[:3] for row in keep.rows()], [
            ("open", 1, 2), ("open", 2, 2), ("open", 3, 2), ("shut", 1, 2),
        ])
        self.assertEqual((keep.least(), keep.made()), (-3, 9))
        # a and a do not pair, so that shut is made without others; a and b do, so that the two of 1 is made.
        self.assertEqual(keep.rows(), [
            ("open", 0, 2, -3), ("open", 1, 2, -3), ("open", 2, 2, 0), ("open", 3, 2, 0), ("shut", 0, 1, None),
            ("shut", 0, 2, -3), ("shut", 1, 2, -3), ("two", 1, 1, None),
        ])
        keep.take(at_end=True)
        self.assertEqual((keep.string(), keep.rows(), keep.made()), ("aa", [
            ("shut", 0, 1, None), ("two", 1, 1, None),
        ], 9))

    def test_how_many_rows_twelve_letters_take(self):
        # All open and shut rows; two of all places but the ends, one of those behind another pair within.
        keep = Keep(rules_of("a", pairs=(("aa", -1),)), "a" * 12)
        self.assertEqual((keep.least(), keep.made()), (-6, 13 + 66 + 55 + 36))
        keep = Keep(rules_of("a"), "a" * 12)
        self.assertEqual((keep.least(), keep.made()), (0, 13 + 66))

    def test_a_letter_that_stands(self):
        keep = Keep(ODD, "abacba")
        keep.least()
        before = (keep.rows(), keep.made())
        for place, letter in enumerate("abacba"):
            keep.letter(place, letter)
        keep.least()
        self.assertEqual((keep.rows(), keep.made()), before)

    def test_parts_that_are_as_they_stand(self):
        keep = Keep(ODD, "abacba")
        keep.least()
        before = (keep.rows(), keep.made())
        for parts in (
            {}, {"pairs": ODD[1]}, {"pairs": list(ODD[1])}, {"loops": list(ODD[3])}, {"stacks": list(ODD[4])},
            {"pairs": None, "loops": None, "stacks": None}, {"pairs": ODD[1], "loops": ODD[3], "stacks": ODD[4]},
        ):
            keep.change(**parts)
            keep.least()
            self.assertEqual((keep.rows(), keep.made(), keep.rules()), (before[0], before[1], ODD))

    def test_telling_rows_makes_none(self):
        keep = Keep(ODD, "abacba")
        self.assertEqual((keep.rows(), keep.rows(), keep.made()), ([], [], 0))
        keep.least()
        made = keep.made()
        for turn in range(3):
            keep.rows()
            self.assertEqual(keep.made(), made)

    def test_pairs_that_change_touch_their_places_alone(self):
        keep = Keep(rules_of("abc", pairs=(("ab", -3), ("ac", -1))), "abcab")
        keep.least()
        keep.change(pairs=(("ab", -3), ("ac", -2)))
        # a and c stand at 0 and 2 alone, in this order.
        self.assertFalse([row for row in keep.rows() if row[1] == 0 and row[2] >= 2])
        self.assertIn(("shut", 0, 1, -3), keep.rows())
        self.assertIn(("shut", 3, 4, -3), keep.rows())
        self.assertIn(("open", 1, 4, -3), keep.rows())

    def test_pairs_of_less_than_span_are_touched_too(self):
        keep = Keep(rules_of("ab", pairs=(("ab", -3),), span=3), "ab")
        keep.least()
        keep.change(pairs=(("ab", -4),))
        self.assertEqual(keep.rows(), [("open", 1, 1, 0), ("open", 2, 1, 0)])

    def test_equal(self):
        keep, other = Keep(ODD, "abac"), Keep(ODD, "abac")
        keep.least()
        self.assertTrue(keep == other)
        self.assertFalse(keep != other)
        other.letter(0, "b")
        self.assertFalse(keep == other)
        other.letter(0, "a")
        other.change(loops=NO_WORTHS)
        self.assertTrue(keep != other)
        other.change(loops=ODD[3])
        self.assertTrue(other == keep)
        self.assertFalse(Keep(ODD, "ab") == Keep(SPANNED, "ab"))
        self.assertTrue(Keep(ODD) == Keep(ODD, ""))
        for thing in WHATEVER + (ODD, "abac", (ODD, "abac"), [ODD, "abac"], ()):
            self.assertFalse(keep == thing)
            self.assertTrue(keep != thing)

    def test_length(self):
        for length in range(13):
            self.assertEqual(len(Keep(ODD, "a" * length)), length)

    def test_names(self):
        self.assertEqual(names_of(Keep), (["rules", "string=''"], {}))
        keep = Keep(rules=ODD, string="ab")
        for tell in (keep.least, keep.rules, keep.string, keep.made, keep.rows):
            self.assertEqual(names_of(tell), ([], {}))
        self.assertEqual(names_of(keep.letter), (["place", "letter"], {}))
        self.assertEqual(names_of(keep.put), (["letter"], {"at_end": True}))
        self.assertEqual(names_of(keep.take), ([], {"at_end": True}))
        self.assertEqual(names_of(keep.change), ([], {"pairs": None, "loops": None, "stacks": None}))
        self.assertEqual(Keep.__module__, keep_file.__name__)
        keep.letter(letter="c", place=1)
        keep.put(letter="b", at_end=False)
        keep.put("a")
        self.assertEqual(keep.string(), "baca")
        keep.take()
        self.assertEqual(keep.string(), "bac")
        for tell in (lambda: keep.put("a", True), lambda: keep.take(True), lambda: keep.change(ODD[1])):
            with self.assertRaises(TypeError):
                tell()

    def test_methods_stand_in_the_class(self):
        for name in (
            "least", "letter", "put", "take", "change", "rules", "string", "made", "rows", "__len__", "__eq__", "__init__",
        ):
            self.assertIn(name, vars(Keep))

    def test_plain_kinds(self):
        keep = Keep(ODD, "abac")
        self.assertIs(type(keep.least()), int)
        self.assertIs(type(keep.made()), int)
        self.assertIs(type(keep.string()), str)
        self.assertEqual(kinds_in(keep.rows()), {list, tuple, str, int, type(None)})

    def test_what_is_told_is_the_askers_own(self):
        keep = Keep(ODD, "abac")
        keep.least()
        stays_as_told(self, keep.rows)
        rows = keep.rows()
        before = list(rows)
        keep.letter(0, "b")
        keep.least()
        self.assertEqual(rows, before)

    def test_a_keep_holds_its_own_copies(self):
        pairs, loops, stacks = [("aa", -3), ("ab", 2)], [1] * 9, [("aa", "ab", 5)]
        keep = Keep(ODD, "abab")
        keep.change(pairs=pairs, loops=loops, stacks=stacks)
        due = (ODD[0], (("aa", -3), ("ab", 2)), ODD[2], (1,) * 9, (("aa", "ab", 5),))
        self.assertEqual((pairs, loops, stacks), ([("aa", -3), ("ab", 2)], [1] * 9, [("aa", "ab", 5)]))
        pairs.clear()
        loops[0] = 77
        stacks.append(None)
        self.assertEqual(keep.rules(), due)
        self.assertEqual(keep.least(), least_worth(due, "abab"))

    def test_two_keeps_do_not_touch_one_another(self):
        keep, other = Keep(ODD, "abac"), Keep(ODD, "abac")
        keep.least()
        keep.put("a")
        keep.change(loops=NO_WORTHS)
        self.assertEqual((other.string(), other.made(), other.rows(), other.rules()), ("abac", 0, [], ODD))


class RefusedTest(unittest.TestCase):

    def changes_nothing(self, keep, deed, error):
        before = (keep.rules(), keep.string(), keep.made(), keep.rows(), len(keep))
        with self.assertRaises(error) as caught:
            deed()
        self.assertIs(type(caught.exception), error)
        self.assertEqual((keep.rules(), keep.string(), keep.made(), keep.rows(), len(keep)), before)
        return caught.exception

    def asked(self, string):
        keep = Keep(ODD, string)
        keep.least()
        return keep

    def test_no_string(self):
        refuses_no_string(self, Keep, NoString)

    def test_no_place(self):
        for string, things in (("abac", NO_PLACES), ("", NO_PLACES + [0]), ("a", NO_PLACES + [1])):
            keep = self.asked(string)
            for thing in things:
                for letter in ("a", "b", "z", None):
                    error = self.changes_nothing(keep, lambda: keep.letter(copy.deepcopy(thing), letter), NoPlace)
                    self.assertEqual(repr(error.place), repr(thing))
                    self.assertNotIsInstance(error, FoldError)

    def test_no_letter(self):
        keep = self.asked("abac")
        for thing in NO_LETTERS:
            self.changes_nothing(keep, lambda: keep.letter(0, thing), NoString)
            self.changes_nothing(keep, lambda: keep.put(thing), NoString)
            self.changes_nothing(keep, lambda: keep.put(thing, at_end=False), NoString)

    def test_a_thirteenth_letter(self):
        keep = self.asked("abacbaabcbab")
        for letter in ("a", "b", "z", "", None):
            self.changes_nothing(keep, lambda: keep.put(letter), NoString)
            self.changes_nothing(keep, lambda: keep.put(letter, at_end=False), NoString)
        keep.take()
        keep.put("c")
        self.assertEqual(keep.string(), "abacbaabcbac")

    def test_a_letter_taken_from_none(self):
        keep = self.asked("")
        for at_end in (True, False):
            error = self.changes_nothing(keep, lambda: keep.take(at_end=at_end), NoPlace)
            self.assertIsNone(error.place)
            self.assertNotIsInstance(error, FoldError)

    def test_no_rules(self):
        keep = self.asked("abac")
        for parts, part in (
            ({"pairs": 5}, "pairs"), ({"pairs": False}, "pairs"), ({"pairs": "ab"}, "pairs"), ({"pairs": {}}, "pairs"),
            ({"pairs": [["ab", 1]]}, "pairs"), ({"pairs": [("ab", 1), ("aa", 1)]}, "pairs"), ({"pairs": [("ad", 1)]}, "pairs"),
            ({"pairs": [("ab", 100)]}, "pairs"), ({"pairs": [("ab", True)]}, "pairs"), ({"pairs": ()}, "stacks"),
            ({"pairs": ODD[1][:-1]}, "stacks"), ({"loops": ()}, "loops"), ({"loops": [0] * 10}, "loops"),
            ({"loops": [0] * 8 + [True]}, "loops"), ({"loops": 0}, "loops"), ({"stacks": 5}, "stacks"),
            ({"stacks": [("ab", "bb", 0)]}, "stacks"), ({"stacks": [["ab", "ab", 0]]}, "stacks"),
            ({"stacks": False}, "stacks"), ({"pairs": 5, "loops": 5, "stacks": 5}, "pairs"),
            ({"loops": 5, "stacks": 5}, "loops"), ({"pairs": (), "loops": 5, "stacks": 5}, "loops"),
            ({"pairs": (), "loops": NO_WORTHS, "stacks": [("ab", "ab", 1)]}, "stacks"),
        ):
            error = self.changes_nothing(keep, lambda: keep.change(**parts), NoRules)
            self.assertEqual(error.part, part, parts)
        for thing in WHATEVER:
            if thing is not None:
                for part in ("pairs", "loops", "stacks"):
                    if thing != [] or part == "loops":
                        error = self.changes_nothing(keep, lambda: keep.change(**{part: thing}), NoRules)
                        self.assertEqual(error.part, part, thing)

    def test_lists_are_taken_at_the_parts_themselves(self):
        keep = Keep(AB, "ab")
        keep.change(pairs=[("aa", 1), ("ab", 2)], loops=[3] * 9, stacks=[("aa", "ab", 4)])
        self.assertEqual(keep.rules(), ("ab", (("aa", 1), ("ab", 2)), 0, (3,) * 9, (("aa", "ab", 4),)))


if __name__ == "__main__":
    unittest.main()
