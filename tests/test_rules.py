import unittest

from pairfolds import rules as rules_file
from pairfolds.errors import FoldError, NoRules
from pairfolds.rules import LOOPS, is_rules, pair_worth, rules_of, stack_worth
from tests.helper import ALL_RULES, NO_WORTHS, ODD, WHATEVER, all_texts, ask_both_ways, names_of

PARTS = ("letters", "pairs", "span", "loops", "stacks")
BASE = {
    "letters": "abc",
    "pairs": (("ab", 1), ("bc", -2)),
    "span": 1,
    "loops": (1, 2, 3, 4, 5, 6, 7, 8, 9),
    "stacks": (("ab", "ab", 4), ("ab", "bc", 3), ("bc", "ab", -5)),
}
TWELVE = tuple((both, at) for at, both in enumerate(all_texts("abcd", 2)[:12]))
THIRTEEN = tuple((both, at) for at, both in enumerate(all_texts("abcd", 2)[:13]))
TEXTS = ("aa", "ab", "ac", "ad")
STACKS = tuple((outer, within, 1) for outer in TEXTS for within in TEXTS)

GOOD = (
    {"letters": "a", "pairs": (), "stacks": ()},
    {"letters": "z", "pairs": (("zz", 0),), "stacks": (("zz", "zz", 0),)},
    {"letters": "abcdef"},
    {"letters": "abcxyz"},
    {"pairs": (("ab", 99), ("bc", -99))},
    {"pairs": (("aa", 0), ("ab", 0), ("ba", 0), ("bc", 0))},
    {"pairs": (("ab", 5), ("bc", 5)), "stacks": ()},
    {"letters": "abcd", "pairs": TWELVE, "stacks": ()},
    {"span": 0}, {"span": 2}, {"span": 3},
    {"loops": NO_WORTHS},
    {"loops": (99, -99) * 4 + (99,)},
    {"stacks": ()},
    {"stacks": (("ab", "bc", 99), ("bc", "ab", -99), ("bc", "bc", 0))},
    {"letters": "abcd", "pairs": tuple((text, 0) for text in TEXTS), "stacks": STACKS[:12]},
)

BAD_WORTHS = (100, -100, True, False, None, "1", (), [], 10 ** 99, -10 ** 99)
BAD = {
    "letters": WHATEVER + (
        "", "ba", "acb", "aa", "abb", "abcdefg", "A", "aB", "a1", "a ", "_", "ab\n", "a\u00e9", "\u03b1", "a" * 4999,
        ["a", "b", "c"], ("a", "b", "c"), {"a": 1}, "`a", "a{",
    ),
    "pairs": tuple(thing for thing in WHATEVER) + tuple((("ab", worth), ("bc", 0)) for worth in BAD_WORTHS) + (
        "", "ab", ("ab", 1), (("ab",),), (("ab", 1, 1), ("bc", 2)), (["ab", 1], ("bc", 2)), (("bc", 1), ("ab", 2)),
        (("ab", 1), ("ab", 1), ("bc", 1)), (("ab", 1), ("ab", 2), ("bc", 1)), (("ab", 2), ("ab", 1), ("bc", 1)),
        (("a", 1),), (("", 1),), (("abc", 1),), (("ad", 1),), (("da", 1),), (("AB", 1),), ((None, 1),), ((("a", "b"), 1),),
        ((["a", "b"], 1),), (({}, 1),), (1, 2), ("ab", "bc"), ((),), {"ab": 1}, ((1, "ab"),), (("ab", 1), None),
        (("ab", 1), ("bc", 2), ("bc", 1)),
    ),
    "span": (None, True, False, -1, 4, 10 ** 99, "1", "", (), (1,), [], [1], {}),
    "loops": WHATEVER + tuple(
        NO_WORTHS[:at] + (worth,) + NO_WORTHS[at + 1:] for worth in BAD_WORTHS for at in (0, 4, 8)
    ) + ((), (0,) * 8, (0,) * 10, "000000000", {word: 0 for word in LOOPS}, ((0,) * 9,)),
    "stacks": tuple(thing for thing in WHATEVER) + tuple((("ab", "bc", worth),) for worth in BAD_WORTHS) + (
        "", ("ab", "bc", 1), (("ab", "bc"),), (("ab", "bc", 1, 1),), (["ab", "bc", 1],), (("ab", "ac", 1),),
        (("ac", "ab", 1),), (("ab", "ba", 1),), (("ab", "", 1),), (("a", "ab", 1),), (("ab", "ab", 1), ("ab", "ab", 2)),
        (("ab", "ab", 1), ("ab", "ab", 1)), (("ab", "bc", 1), ("ab", "ab", 2)), (("bc", "ab", 1), ("ab", "bc", 2)),
        ((None, "ab", 1),), (("ab", [], 1),), (({}, "ab", 1),), ((("ab",), "ab", 1),), (("ab", "bc", 1), 7),
    ),
}


def with_parts(**changed):
    return {**BASE, **changed}


def as_rules(parts):
    return tuple(parts[name] for name in PARTS)


def made(parts):
    named = dict(parts)
    letters = named.pop("letters")
    return rules_of(letters, **named)


class IsRulesTest(unittest.TestCase):

    def test_good_ones(self):
        for rules in ALL_RULES:
            self.assertIs(ask_both_ways(self, is_rules, thing=rules), True)
        for changed in GOOD:
            self.assertIs(is_rules(as_rules(with_parts(**changed))), True, changed)

    def test_each_wrong_part(self):
        self.assertIs(is_rules(as_rules(BASE)), True)
        for part in PARTS:
            for thing in BAD[part]:
                self.assertIs(is_rules(as_rules(with_parts(**{part: thing}))), False, (part, thing))

    def test_at_most_twelve(self):
        self.assertIs(is_rules(("abcd", THIRTEEN, 0, NO_WORTHS, ())), False)
        pairs = tuple((text, 0) for text in TEXTS)
        self.assertIs(is_rules(("abcd", pairs, 0, NO_WORTHS, STACKS[:13])), False)

    def test_whatever_else(self):
        for thing in WHATEVER + ("", (), as_rules(BASE)[:4], as_rules(BASE) + ((),), list(as_rules(BASE)), BASE, PARTS):
            self.assertIs(is_rules(thing), False, thing)

    def test_lists_are_no_tuples(self):
        for part in ("letters", "pairs", "loops", "stacks"):
            self.assertIs(is_rules(as_rules(with_parts(**{part: list(BASE[part])}))), False, part)
        self.assertIs(is_rules(as_rules(with_parts(pairs=[], stacks=()))), False)
        self.assertIs(is_rules(as_rules(with_parts(stacks=[]))), False)

    def test_stacks_go_by_the_pairs(self):
        self.assertIs(is_rules(("ab", (("ab", 1),), 0, NO_WORTHS, (("ab", "ab", 1),))), True)
        self.assertIs(is_rules(("ab", (), 0, NO_WORTHS, (("ab", "ab", 1),))), False)


class RulesOfTest(unittest.TestCase):

    def test_arguments(self):
        self.assertEqual(names_of(rules_of), (["letters"], {"pairs": (), "span": 0, "loops": NO_WORTHS, "stacks": ()}))
        with self.assertRaises(TypeError):
            rules_of("a", ())

    def test_parts_left_out(self):
        self.assertEqual(rules_of("ab"), ("ab", (), 0, NO_WORTHS, ()))
        self.assertEqual(rules_of(letters="ab", span=2), ("ab", (), 2, NO_WORTHS, ()))
        self.assertEqual(rules_of("ab", pairs=(("ab", 1),)), ("ab", (("ab", 1),), 0, NO_WORTHS, ()))
        self.assertEqual(rules_of("ab", loops=tuple(range(9))), ("ab", (), 0, tuple(range(9)), ()))

    def test_what_is_made_is_rules(self):
        for rules in ALL_RULES:
            self.assertEqual(made(dict(zip(PARTS, rules))), rules)
        for changed in GOOD:
            parts = with_parts(**changed)
            self.assertEqual(made(parts), as_rules(parts))
            self.assertIs(is_rules(made(parts)), True)

    def test_lists_for_tuples(self):
        parts = with_parts(pairs=list(BASE["pairs"]), loops=list(BASE["loops"]), stacks=list(BASE["stacks"]))
        told = made(parts)
        self.assertEqual(told, as_rules(BASE))
        self.assertIs(is_rules(told), True)
        self.assertEqual(rules_of("a", pairs=[], stacks=[]), ("a", (), 0, NO_WORTHS, ()))

    def test_lists_are_refused_elsewhere(self):
        wrong = (
            ("letters", {"letters": ["a", "b", "c"]}),
            ("pairs", {"pairs": [["ab", 1], ("bc", -2)]}),
            ("pairs", {"pairs": (["ab", 1], ("bc", -2))}),
            ("span", {"span": [1]}),
            ("loops", {"loops": [[0]] * 9}),
            ("stacks", {"stacks": [["ab", "bc", 3]]}),
            ("stacks", {"stacks": (["ab", "bc", 3],)}),
        )
        for part, changed in wrong:
            self.refused(with_parts(**changed), part)

    def test_what_is_handed_in_is_copied(self):
        parts = with_parts(pairs=list(BASE["pairs"]), loops=list(BASE["loops"]), stacks=list(BASE["stacks"]))
        told = made(parts)
        self.assertEqual(parts["pairs"], list(BASE["pairs"]))
        self.assertEqual(parts["loops"], list(BASE["loops"]))
        self.assertEqual(parts["stacks"], list(BASE["stacks"]))
        parts["pairs"].clear()
        parts["loops"][0] = 50
        parts["stacks"].append(None)
        self.assertEqual(told, as_rules(BASE))

    def refused(self, parts, part):
        with self.assertRaises(NoRules) as caught:
            made(parts)
        self.assertEqual(caught.exception.part, part, parts)
        self.assertIsInstance(caught.exception, FoldError)

    def test_each_wrong_part_is_named(self):
        empty = ("pairs", "stacks")
        for part in PARTS:
            for thing in BAD[part]:
                if not (part in empty and thing == []):
                    self.refused(with_parts(**{part: thing}), part)

    def test_none_is_no_part_left_out(self):
        for part in PARTS:
            self.refused(with_parts(**{part: None}), part)

    def test_the_first_wrong_part_is_named(self):
        for at, part in enumerate(PARTS):
            self.refused(with_parts(**{later: None for later in PARTS[at:]}), part)
            for later in PARTS[at + 1:]:
                self.refused(with_parts(**{part: None, later: None}), part)

    def test_stacks_without_their_pairs(self):
        self.refused(with_parts(pairs=(("ab", 1),)), "stacks")
        self.refused(with_parts(pairs=()), "stacks")

    def test_at_most_twelve(self):
        self.refused({"letters": "abcd", "pairs": THIRTEEN}, "pairs")
        self.refused({"letters": "abcd", "pairs": list(THIRTEEN)}, "pairs")
        pairs = tuple((text, 0) for text in TEXTS)
        self.refused({"letters": "abcd", "pairs": pairs, "stacks": STACKS[:13]}, "stacks")
        self.assertEqual(rules_of("abcd", pairs=TWELVE)[1], TWELVE)
        self.assertEqual(rules_of("abcd", pairs=pairs, stacks=STACKS[:12])[4], STACKS[:12])


class WorthsTest(unittest.TestCase):

    def test_loops(self):
        words = ("stacked", "inner", "inner free", "forked", "branch", "fork free", "lone", "lone free", "open")
        self.assertEqual(LOOPS, words)
        self.assertIsInstance(LOOPS, tuple)

    def test_pair_worth_of_texts_that_stand_there(self):
        for rules in ALL_RULES:
            for both, worth in rules[1]:
                self.assertEqual(ask_both_ways(self, pair_worth, rules=rules, both=both), worth)

    def test_pair_worth_of_all_others(self):
        for text in ("bc", "bb", "ac", "", "a", "aba", "abc", "AB", "zz", "a b", "\u00e9\u00e9", "ab\n"):
            self.assertIsNone(pair_worth(ODD, text), text)
        self.assertIsNone(pair_worth(rules_of("ab"), "ab"))

    def test_a_worth_of_nought_is_one(self):
        rules = rules_of("ab", pairs=(("ab", 0),))
        self.assertEqual(pair_worth(rules, "ab"), 0)
        self.assertIsNone(pair_worth(rules, "ba"))

    def test_stack_worth(self):
        told = {(outer, within): worth for outer, within, worth in ODD[4]}
        for outer in all_texts("abc", 2) + ["", "a", "abc", "zz"]:
            for within in all_texts("abc", 2) + ["", "a", "abc", "zz"]:
                worth = ask_both_ways(self, stack_worth, rules=ODD, outer=outer, within=within)
                self.assertEqual(worth, told.get((outer, within), 0), (outer, within))
        self.assertEqual(stack_worth(rules_of("ab"), "ab", "ab"), 0)

    def test_names(self):
        self.assertEqual(names_of(is_rules), (["thing"], {}))
        self.assertEqual(names_of(pair_worth), (["rules", "both"], {}))
        self.assertEqual(names_of(stack_worth), (["rules", "outer", "within"], {}))
        for function in (is_rules, rules_of, pair_worth, stack_worth):
            self.assertEqual(function.__module__, rules_file.__name__)


if __name__ == "__main__":
    unittest.main()
