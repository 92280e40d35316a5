import random
import unittest

from pairfolds import desk as desk_file
from pairfolds.desk import Desk
from pairfolds.errors import NoText
from pairfolds.keep import Keep
from pairfolds.texts import show_program, show_rules
from pairfolds.walker import walked
from tests.helper import ALL_RULES, ODD, ONE_LETTER, SPANNED, WHATEVER
from tests.helper import every_folding, listed_with_worths, names_of, plain_worth, some_program, some_rules

BEGINNING = ("a", (), 0, (0,) * 9, ())
PROGRAM = "string abab\nleast\ncount\nhas 0 3\nhas 0 1\nwithin 20\nworth ()()\nletter 9 a\nletter 0 b\nleast\n"


def written(string, folding):
    signs = dict([(i, "(") for i, j in folding] + [(j, ")") for i, j in folding])
    return "".join(signs.get(place, ".") for place in range(len(string)))


def a_desk(rules, string=""):
    desk = Desk()
    desk.say("rules\n" + show_rules(rules))
    desk.say("string " + string if string else "string")
    return desk


def state(desk):
    """What a desk tells of itself without a row made by it."""
    return [desk.say(line) for line in ("made", "fold", "count", "worth", "brackets 0", "number")]


class AnswersTest(unittest.TestCase):

    def told(self, desk, *lines):
        for line, answer in lines:
            said = desk.say(line)
            self.assertIs(type(said), str)
            self.assertEqual(said, answer, line)

    def holds_asked(self, desk, rules, string, made):
        """Each question held against lists of all foldings."""
        listed = listed_with_worths(rules, string)
        foldings = sorted(folding for worth, folding in listed)
        least = [written(string, folding) for worth, folding in listed if worth == listed[0][0]]
        self.assertIn(desk.say("fold"), least)
        self.told(desk, ("count", str(len(listed))), ("made", str(made)), (f"brackets {len(listed)}", "refused NoNumber"))
        for number in (0, len(foldings) // 3, len(foldings) - 1):
            text = written(string, foldings[number])
            behind = " " + text if text else ""
            worth = plain_worth(rules, string, foldings[number])
            self.told(desk, ("number" + behind, str(number)), (f"brackets {number}", text), ("worth" + behind, str(worth)))
        self.told(desk, ("made", str(made)))

    def test_as_it_begins(self):
        self.told(Desk(), ("least", "0"), ("made", "1"), ("least", "0"), ("made", "1"))
        self.told(Desk(), ("fold", ""), ("count", "1"), ("number", "0"), ("brackets 0", ""), ("worth", "0"), ("made", "0"))
        self.told(Desk(), ("string", "ok"), ("string aa", "ok"), ("count", "1"), ("least", "0"), ("string ab", "refused NoString"))
        self.told(Desk(), ("cut end", "refused NoPlace"), ("cut begin", "refused NoPlace"), ("letter 0 a", "refused NoPlace"))
        self.told(Desk(), ("begin b", "refused NoString"), ("end a", "ok"), ("begin a", "ok"), ("fold", ".."))
        self.told(Desk(), ("run\n", "-"), ("run\nleast\ncount\nhas 0 1\n", "0 1 False"), ("run\nstring ab\n", "no"))

    def test_by_hand(self):
        rules = ("ab", (("ab", -3), ("ba", -2)), 1, (-1, 2, 0, 1, 0, 0, 1, 0, 0), ())
        desk = a_desk(rules)
        self.told(
            desk, ("string aabb", "ok"), ("made", "0"), ("least", "-2"), ("made", "14"), ("count", "4"), ("brackets 0", "...."),
            ("brackets 1", "(.)."), ("brackets 2", "(..)"), ("brackets 3", ".(.)"), ("brackets 4", "refused NoNumber"),
            ("number (..)", "2"), ("worth (..)", "-2"), ("worth ....", "0"), ("number .().", "refused NoFolding"),
            ("worth .().", "refused NoFolding"), ("worth (.", "refused NoText"), ("worth (...", "refused NoText"),
            ("number", "refused NoText"), ("number x", "refused NoText"), ("letter 3 a", "ok"), ("fold", "(.)."),
        )

    def test_questions_behind_strings_and_letters(self):
        for rules in ALL_RULES:
            first, last = rules[0][0], rules[0][-1]
            desk, keep = a_desk(rules), Keep(rules)
            for line, deed in (
                ("string " + (rules[0] * 3)[:5], None), ("begin " + last, lambda: keep.put(last, at_end=False)),
                ("end " + first, lambda: keep.put(first)), ("letter 2 " + last, lambda: keep.letter(2, last)),
                ("cut begin", lambda: keep.take(at_end=False)), ("cut end", lambda: keep.take()),
                ("letter 0 " + first, lambda: keep.letter(0, first)), ("string", None), ("end " + last, lambda: keep.put(last)),
            ):
                self.told(desk, (line, "ok"))
                if deed is None:
                    keep = Keep(rules, line[7:])
                else:
                    deed()
                self.holds_asked(desk, rules, keep.string(), keep.made())
                self.told(desk, ("least", str(keep.least())), ("made", str(keep.made())))

    def drawn_deed(self, draw, rules):
        letter = draw.choice(rules[0] + rules[0] + "z")
        return draw.choice((
            f"begin {letter}", f"end {letter}", "cut begin", "cut end", f"letter {draw.randint(0, 7)} {letter}", "least", "made",
        ))

    def deed_of_keep(self, keep, line):
        """What the keep of a desk does at the line, and the answer that is due."""
        words = line.split(" ")
        try:
            if words[0] in ("begin", "end"):
                keep.put(words[1], at_end=words[0] == "end")
            elif words[0] == "cut":
                keep.take(at_end=words[1] == "end")
            elif words[0] == "letter":
                keep.letter(int(words[1]), words[2])
            else:
                return str(keep.least() if line == "least" else keep.made())
        except (ValueError, KeyError) as error:
            return "refused " + type(error).__name__
        return "ok"

    def test_a_keep_told_the_same(self):
        draw = random.Random(12)
        for turn in range(60):
            rules = some_rules(draw)
            desk, keep = a_desk(rules), Keep(rules)
            for deed in range(40):
                line = self.drawn_deed(draw, rules)
                if len(keep) < 9 or not line.startswith(("begin", "end")):
                    self.told(desk, (line, self.deed_of_keep(keep, line)))
            self.told(desk, ("made", str(keep.made())), ("least", str(keep.least())), ("made", str(keep.made())))

    def test_least_alone_makes_rows(self):
        desk = a_desk(ODD, "abacba")
        for line in ("fold", "count", "number ......", "brackets 3", "worth ......", "made", "run\nstring abab\nleast\n"):
            desk.say(line)
            self.assertEqual(desk.say("made"), "0", line)
        desk.say("least")
        self.assertNotEqual(desk.say("made"), "0")

    def test_fresh_keeps(self):
        desk = a_desk(ODD, "abacba")
        desk.say("least")
        self.told(desk, ("string abacba", "ok"), ("made", "0"), ("least", desk.say("least")))
        self.told(desk, ("rules\n" + show_rules(SPANNED), "ok"), ("made", "0"), ("fold", ""), ("string ab", "ok"))
        self.told(desk, ("rules\n" + show_rules(SPANNED), "ok"), ("fold", ""))
        self.told(desk, ("string abb", "ok"), ("least", str(listed_with_worths(SPANNED, "abb")[0][0])))

    def test_twelve_letters(self):
        desk = a_desk(ONE_LETTER, "a" * 12)
        self.told(desk, ("end a", "refused NoString"), ("begin a", "refused NoString"), ("string " + "a" * 13, "refused NoString"))
        self.told(desk, ("least", str(Keep(ONE_LETTER, "a" * 12).least())), ("cut end", "ok"), ("begin a", "ok"))
        self.assertEqual(len(desk.say("fold")), 12)


class RunTest(unittest.TestCase):

    def test_what_the_walker_tells(self):
        draw = random.Random(13)
        for turn in range(60):
            rules = some_rules(draw)
            desk = a_desk(rules)
            program = some_program(draw, letters=rules[0] + "z", most=5)
            told = walked(rules, program)
            due = " ".join(str(thing) for thing in told) if told else "-"
            self.assertEqual(desk.say("run\n" + show_program(program)), due)

    def test_truths_and_nothing(self):
        desk = a_desk(ODD, "ab")
        self.assertEqual(desk.say("run\nstring ab\nhas 0 1\nhas 1 0\nletter 2 a\n"), "True False no")
        self.assertEqual(desk.say("run\n"), "-")
        self.assertEqual(desk.say("run\nstring ab\n"), "-")

    def test_it_begins_without_letters_and_changes_nothing(self):
        desk = a_desk(ODD, "abac")
        desk.say("least")
        before = state(desk)
        self.assertEqual(desk.say("run\ncount\nstring ab\ncount\n"), "1 2")
        desk.say("run\n" + PROGRAM)
        self.assertEqual(state(desk), before)

    def test_texts_that_are_no_programs(self):
        desk = a_desk(ODD, "abac")
        before = state(desk)
        for text in ("x", "least", "\n", "least\n\n", "least \n", "least\n" * 21, "has 0\n", " ", "made\n", "within 100\n"):
            self.assertEqual(desk.say("run\n" + text), "refused NoText")
        self.assertEqual(state(desk), before)


class RefusedTest(unittest.TestCase):

    def test_refused_in_the_answer(self):
        desk = a_desk(ODD, "abab")
        desk.say("least")
        before = state(desk)
        for line, name in (
            ("rules\n", "NoText"), ("rules\nx", "NoText"), ("rules\n" + show_rules(ODD)[:-1], "NoText"),
            ("rules\n" + show_rules(ODD) + "\n", "NoText"), ("rules\n\n" + show_rules(ODD), "NoText"),
            ("rules\n" + show_rules(ODD).replace("span 0", "span 4"), "NoText"), ("run\nx\n", "NoText"),
            ("string abd", "NoString"), ("string ABC", "NoString"), ("string " + "a" * 13, "NoString"), ("string 0", "NoString"),
            ("string \t", "NoString"), ("string ()", "NoString"), ("letter 4 a", "NoPlace"), ("letter 4 z", "NoPlace"),
            ("letter " + "9" * 60 + " a", "NoPlace"), ("letter 0 d", "NoString"), ("letter 0 ab", "NoString"),
            ("letter 0 \t", "NoString"), ("letter 0 0", "NoString"), ("begin d", "NoString"), ("begin ab", "NoString"),
            ("end d", "NoString"), ("end ab", "NoString"), ("end end", "NoString"), ("number ()", "NoText"), ("number", "NoText"),
            ("number ....x", "NoText"), ("number abab", "NoText"), ("number )(..", "NoText"), ("number .(.)", "NoFolding"),
            ("worth ()", "NoText"), ("worth", "NoText"), ("worth ((((", "NoText"), ("worth .(.)", "NoFolding"),
            ("worth 0", "NoText"), ("brackets 8", "NoNumber"), ("brackets " + "9" * 60, "NoNumber"),
        ):
            self.assertEqual(desk.say(line), "refused " + name, line)
            self.assertEqual(state(desk), before, line)

    def test_other_lines(self):
        desk = a_desk(ODD, "abab")
        desk.say("least")
        before = state(desk)
        words = (
            "least", "fold", "count", "made", "string ab", "string", "letter 0 a", "begin a", "end a", "cut begin", "cut end",
            "number ....", "number", "brackets 0", "worth ....", "worth",
        )
        bent = [bend for line in words for bend in (
            line + " ", " " + line, line + "\n", "\n" + line, line.upper(), line + " x y", line + "\nx", line.replace(" ", "  "),
            line.replace(" ", "\n"), line.replace(" ", " \n"), line + "\nleast",
        ) if bend not in words]
        numbers = ("00", "01", "+1", "-1", "-0", "1.0", "a", "\u0661", "\u00b2", "9" * 61, "1" * 5000, "1_0", "\t1", "0x0")
        bent += [f"letter {number} a" for number in numbers] + [f"brackets {number}" for number in numbers]
        for line in bent + [
            "", " ", "  ", "\n", "x", "least x", "fold x", "count 0", "made 0", "string a b", "letter", "letter 0", "letter a",
            "letter a 0", "letter 0 a b", "letter 0  a", "begin", "begin a b", "end", "end a b", "cut", "cut x", "cut middle",
            "cut begin end", "cut a", "number () ()", "brackets", "brackets 0 0", "brackets ()", "worth () ()", "rules", "run",
            "rules ", "run ", "rules \n", "run \n", " rules\n", " run\n", "rules x\n", "run x\n", "\nrules\n", "rules letters a",
            "run least", "Rules\n", "RUN\n", "rules\r\n", "run\r", "put a", "take", "keep", "least\r", "least\t", "\tleast",
            "refused", "ok", "runs\n", "rule\n",
        ]:
            self.refuses(desk, line)
            self.assertEqual(state(desk), before, line)

    def refuses(self, desk, thing):
        with self.assertRaises(NoText) as caught:
            desk.say(thing)
        self.assertIsNone(caught.exception.at, thing)

    def test_whatever(self):
        desk = a_desk(ODD, "abab")
        before = state(desk)
        for thing in WHATEVER + ((), ["least"], ("least",), b"least", 0):
            self.refuses(desk, thing)
        self.assertEqual(state(desk), before)


class DeskTest(unittest.TestCase):

    def test_two_desks_do_not_touch_one_another(self):
        desk, other = Desk(), Desk()
        desk.say("rules\n" + show_rules(ODD))
        desk.say("string abab")
        desk.say("least")
        self.assertEqual(other.say("made"), "0")
        self.assertEqual(other.say("fold"), "")
        self.assertEqual(other.say("string ab"), "refused NoString")
        self.assertEqual(desk.say("count"), str(len(every_folding(ODD, "abab"))))

    def test_names(self):
        self.assertEqual(names_of(Desk), ([], {}))
        self.assertEqual(names_of(Desk().say), (["text"], {}))
        self.assertEqual(Desk().say(text="count"), "1")
        self.assertEqual(Desk.__module__, desk_file.__name__)
        self.assertIn("say", vars(Desk))

    def test_rules_are_written_as_they_begin(self):
        desk = Desk()
        for line in ("string aaaa", "least", "count"):
            desk.say(line)
        other = a_desk(BEGINNING, "aaaa")
        other.say("least")
        self.assertEqual(state(desk), state(other))


if __name__ == "__main__":
    unittest.main()
