import unittest

from pairfolds import wishes as wishes_file
from pairfolds.rules import rules_of
from pairfolds.wishes import against, lets_against, wished
from tests.helper import ALL_RULES, CHEAP, DEAR, FORKING, NO_PAIRS, ODD, ONE_LETTER, SPANNED, WHATEVER, WIDE
from tests.helper import all_texts, ask_both_ways, every_folding, kinds_in, names_of, plain_worth, stays_as_told

ANY_PAIRS = ("a", (("aa", 0),), 0, (0,) * 9, ())
SIX = ("......", "(....)", "((..))", "()()()", "(()())", "((()))", ".(..).", "()..()")


def all_wishes(length):
    """All texts of matched brackets and points so long."""
    if length == 0:
        return [""]
    made = ["." + rest for rest in all_wishes(length - 1)]
    for size in range(length - 1):
        made += [
            "(" + within + ")" + rest
            for within in all_wishes(size) for rest in all_wishes(length - 2 - size)
        ]
    return made


def pairs_of(wish):
    begun, pairs = [], []
    for at, sign in enumerate(wish):
        if sign == "(":
            begun.append(at)
        if sign == ")":
            pairs.append((begun.pop(), at))
    return tuple(sorted(pairs))


def plain_paper(rules, wish, alone):
    """A list of (string, foldings): None where the wished one can't stand, else all that forbid it."""
    pairs = pairs_of(wish)
    rows = []
    for string in all_texts(rules[0], len(wish)):
        listed = every_folding(rules, string)
        if pairs not in listed:
            rows.append((string, None))
            continue
        most = plain_worth(rules, string, pairs)
        worths = {folding: plain_worth(rules, string, folding) for folding in listed}
        rows.append((string, [
            folding for folding in listed
            if worths[folding] < most or (alone and worths[folding] == most and folding != pairs)
        ]))
    return rows


class WishesTest(unittest.TestCase):

    def holds_wish(self, rules, wish, alone):
        plain = plain_paper(rules, wish, alone)
        folding_so = [string for string, foldings in plain if foldings == []]
        handed = {"rules": rules, "wish": wish, "alone": alone}
        string = ask_both_ways(self, wished, **handed)
        paper = ask_both_ways(self, against, **handed)
        if folding_so:
            self.assertEqual(string, min(folding_so), handed)
            self.assertIsNone(paper, handed)
            return
        self.assertIsNone(string, handed)
        self.is_paper(paper, plain)
        self.assertIs(ask_both_ways(self, lets_against, rules=rules, wish=wish, thing=paper, alone=alone), True)
        for at in (0, -1):
            other = [(text, foldings if foldings is None else foldings[at]) for text, foldings in plain]
            self.assertIs(lets_against(rules, wish, other, alone=alone), True)

    def is_paper(self, paper, plain):
        self.assertIs(type(paper), list)
        self.assertEqual([row[0] for row in paper], [string for string, foldings in plain])
        self.assertEqual(paper, sorted(paper, key=lambda row: row[0]))
        for (string, folding), (text, foldings) in zip(paper, plain):
            if foldings is None:
                self.assertIsNone(folding)
            else:
                self.assertIn(folding, foldings)

    def test_all_short_wishes(self):
        for rules in ALL_RULES + (ANY_PAIRS,):
            for length in (1, 2, 3, 4):
                for wish in all_wishes(length):
                    for alone in (False, True):
                        self.holds_wish(rules, wish, alone)

    def test_wishes_of_five(self):
        for rules in (ODD, SPANNED, WIDE, FORKING, CHEAP):
            for wish in ("(...)", "((.))", "()().", "(().)"):
                for alone in (False, True):
                    self.holds_wish(rules, wish, alone)

    def test_wishes_of_six(self):
        for wish in SIX:
            for alone in (False, True):
                self.holds_wish(ODD, wish, alone)
        for rules in (SPANNED, DEAR, FORKING, ONE_LETTER):
            self.holds_wish(rules, "(()())", False)
            self.holds_wish(rules, "......", True)

    def test_by_hand(self):
        rules = rules_of("ab", pairs=(("ab", -1),))
        for wish, alone, string in (
            (".", False, "a"), (".", True, "a"), ("..", False, "aa"), ("()", False, "ab"), ("()", True, "ab"),
            ("(.)", False, "aab"), ("(.)", True, None), (".()", True, "bab"), ("(())", True, "aabb"),
            ("()()", False, "abab"), ("()()", True, "abab"), ("().", True, "aba"), (".().", False, "aaba"),
        ):
            self.assertEqual(wished(rules, wish, alone=alone), string, (wish, alone))
            self.assertEqual(against(rules, wish, alone=alone) is None, string is not None)

    def test_the_paper_by_hand(self):
        rules = rules_of("ab", pairs=(("ab", 1),))
        self.assertIsNone(wished(rules, "()"))
        self.assertEqual(against(rules, "()"), [("aa", None), ("ab", ()), ("ba", None), ("bb", None)])
        self.assertIsNone(wished(NO_PAIRS, "()"))
        self.assertEqual(against(NO_PAIRS, "()"), [("aa", None), ("ab", None), ("ba", None), ("bb", None)])

    def test_as_much_and_another_one_forbids_alone(self):
        rules = rules_of("a", pairs=(("aa", 0),))
        for wish in ("..", "()"):
            self.assertEqual(wished(rules, wish), "aa")
            self.assertIsNone(against(rules, wish))
            self.assertIs(lets_against(rules, wish, [("aa", ())]), False)
            self.assertIs(lets_against(rules, wish, [("aa", ((0, 1),))]), False)
            self.assertIsNone(wished(rules, wish, alone=True))
        self.assertEqual(against(rules, "..", alone=True), [("aa", ((0, 1),))])
        self.assertEqual(against(rules, "()", alone=True), [("aa", ())])
        self.assertIs(lets_against(rules, "..", [("aa", ())], alone=True), False)
        self.assertIs(lets_against(rules, "()", [("aa", ((0, 1),))], alone=True), False)
        self.assertIs(lets_against(rules, "()", [("aa", ())], alone=True), True)

    def refuses(self, rules, wish, things, alone=False):
        for thing in things:
            self.assertIs(lets_against(rules, wish, thing, alone=alone), False, (wish, thing))

    def test_bent_papers(self):
        for rules, wish, alone in (
            (ODD, "(...)", False), (ODD, "(....)", True), (DEAR, "(..)", False), (DEAR, "()()", True), (WIDE, "()", False),
            (ONE_LETTER, "...", True), (NO_PAIRS, "(.)", False),
        ):
            paper = against(rules, wish, alone=alone)
            self.assertIs(lets_against(rules, wish, paper, alone=alone), True)
            self.refuses(rules, wish, self.bent(rules, wish, paper), alone)

    def bent(self, rules, wish, paper):
        yield from (tuple(paper), paper + paper[-1:], paper[:1] + paper, [], paper[:-1], dict(paper), [list(paper)])
        if len(paper) > 1:
            yield from (paper[::-1], paper[1:] + paper[:1])
        for at in range(0, len(paper), max(1, len(paper) // 9)):
            string, folding = paper[at]
            rows = [(string,), [string, folding], (string, folding, None), (folding, string), None, string, True, ()]
            rows += [(string, "()"), (string, []), (string, False), (string, 0), (string, ((0, 0),)), ("z", folding)]
            rows += [(string, ((False, True),)), (string, pairs_of(wish)), (list(string), folding)]
            rows += [(string, () if folding is None else None)]
            yield paper[:at] + paper[at + 1:]
            yield paper[:at] + paper[at:at + 1] + paper[at:]
            yield from (paper[:at] + [row] + paper[at + 1:] for row in rows)
            if at + 1 < len(paper):
                yield paper[:at] + [paper[at + 1], paper[at]] + paper[at + 2:]
                yield paper[:at] + [paper[at], paper[at]] + paper[at + 2:]

    def test_foldings_that_are_worth_too_much(self):
        for rules, wish, alone in ((ODD, "(...)", False), (ODD, "(...)", True), (DEAR, "(..)", False)):
            paper = against(rules, wish, alone=alone)
            allowed = dict(plain_paper(rules, wish, alone))
            for at, (string, folding) in enumerate(paper):
                if folding is not None:
                    for other in every_folding(rules, string):
                        bent = paper[:at] + [(string, other)] + paper[at + 1:]
                        told = lets_against(rules, wish, bent, alone=alone)
                        self.assertIs(told, other in allowed[string], (string, other))

    def test_truths_for_numbers(self):
        rules = rules_of("a", pairs=(("aa", -1),))
        self.assertIs(lets_against(rules, "..", [("aa", ((0, 1),))]), True)
        self.refuses(rules, "..", [[("aa", ((False, True),))], [("aa", ((0, True),))], [("aa", [(0, 1)])]])

    def test_whatever(self):
        for rules, wish in ((ODD, "(....)"), (ODD, "()"), (DEAR, "()"), (NO_PAIRS, "()"), (ONE_LETTER, "...")):
            self.refuses(rules, wish, WHATEVER)
            self.refuses(rules, wish, WHATEVER, alone=True)

    def test_no_paper_where_a_string_folds_so(self):
        self.refuses(ODD, "..", [None, [], [(text, None) for text in all_texts("abc", 2)]])
        self.refuses(ODD, "..", [[(text, ()) for text in all_texts("abc", 2)]], alone=True)

    def test_alone_left_out(self):
        rules = rules_of("a", pairs=(("aa", 0),))
        self.assertEqual(wished(rules, "()"), wished(rules, "()", alone=False))
        self.assertIsNone(against(rules, "()"))
        self.assertIs(lets_against(rules, "()", [("aa", ())]), False)

    def test_what_is_told_is_the_askers_own(self):
        stays_as_told(self, against, ODD, "(...)")
        stays_as_told(self, against, ODD, "(...)", alone=True)

    def test_plain_kinds(self):
        self.assertEqual(kinds_in(against(ODD, "(...)")), {list, tuple, str, int, type(None)})
        self.assertIs(type(wished(ODD, "()")), str)

    def test_names(self):
        self.assertEqual(names_of(wished), (["rules", "wish"], {"alone": False}))
        self.assertEqual(names_of(against), (["rules", "wish"], {"alone": False}))
        self.assertEqual(names_of(lets_against), (["rules", "wish", "thing"], {"alone": False}))
        for tell in (wished, against, lets_against):
            self.assertEqual(tell.__module__, wishes_file.__name__)
        for tell in (wished, against):
            with self.assertRaises(TypeError):
                tell(ODD, "()", False)
        with self.assertRaises(TypeError):
            lets_against(ODD, "()", [], False)


if __name__ == "__main__":
    unittest.main()
