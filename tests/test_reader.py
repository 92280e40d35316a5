import random
import unittest

from pairfolds import reader as reader_file
from pairfolds.errors import NoFolding, NoText
from pairfolds.foldings import brackets
from pairfolds.reader import read_folding, read_program, read_rules
from pairfolds.texts import show_program, show_rules
from tests.helper import ALL_RULES, ODD, ONE_LETTER, SPANNED, WHATEVER, WIDE
from tests.helper import all_texts, ask_both_ways, every_folding, kinds_in, names_of, some_program, some_rules, some_texts

NO_TEXTS = tuple(thing for thing in WHATEVER if not isinstance(thing, str)) + ((), 5, [""], ("letters a",), b"letters a\n")
LINES = ("letters ab", "pairs aa:-3 ab:0 ba:12", "span 2", "loops 0 -1 2 -99 99 5 6 7 10", "stacks ab:aa:-7 ba:ab:0")
RULES = (
    "ab", (("aa", -3), ("ab", 0), ("ba", 12)), 2, (0, -1, 2, -99, 99, 5, 6, 7, 10), (("ab", "aa", -7), ("ba", "ab", 0)),
)
# Words that are no numbers, though Python would read some of them.
NO_NUMBERS = (
    "00", "01", "-0", "-00", "-01", "+1", "+0", "--1", "1-", "-", "1.0", "1e1", "0x1", "1_0", "a", "\t1", "1\t", "\r1", "1\r",
    "\u0661", "\u00b2", "\uff11", "1" * 5000, "-" + "1" * 5000, "None", "True", "(1)",
)


def text_of(lines):
    return "".join(line + "\n" for line in lines)


class ReadTest(unittest.TestCase):

    def refuses(self, read, text, at):
        with self.assertRaises(NoText) as caught:
            read(text)
        self.assertEqual(caught.exception.at, at, text)
        self.assertIs(type(caught.exception.at), type(at), text)


class ReadRulesTest(ReadTest):

    def refuses_line(self, at, line):
        """That rules are refused at a line, whatever stands behind it."""
        ahead = LINES[:at]
        for behind in (LINES[at + 1:], (), ("x",) * 7, ("",)):
            self.refuses(read_rules, text_of(ahead + (line,) + behind), at)

    def test_by_hand(self):
        self.assertEqual(ask_both_ways(self, read_rules, text=text_of(LINES)), RULES)
        self.assertEqual(read_rules("letters a\npairs\nspan 0\nloops 0 0 0 0 0 0 0 0 0\nstacks\n"), (
            "a", (), 0, (0,) * 9, (),
        ))

    def test_what_is_written_is_read_back(self):
        draw = random.Random(8)
        for rules in ALL_RULES + (RULES,) + tuple(some_rules(draw) for turn in range(300)):
            told = read_rules(show_rules(rules))
            self.assertEqual(repr(told), repr(rules))
            self.assertEqual(kinds_in(told), kinds_in(rules))
            self.assertEqual(show_rules(told), show_rules(rules))

    def test_lines_that_lack(self):
        for many in range(5):
            self.refuses(read_rules, text_of(LINES[:many]), many)

    def test_a_line_without_its_line_end(self):
        for many in range(1, 6):
            self.refuses(read_rules, text_of(LINES[:many])[:-1], many - 1)

    def test_a_sixth_line(self):
        for more in ("x\n", "\n", "stacks\n", "x", " ", "\n\n", LINES[0] + "\n", "\r", text_of(LINES)):
            self.refuses(read_rules, text_of(LINES) + more, 5)

    def test_no_text(self):
        for thing in NO_TEXTS:
            self.refuses(read_rules, thing, None)

    def test_other_texts(self):
        for thing in WHATEVER + ("", "\n", "letters", "letters a", " letters a\n", "rules\n" + text_of(LINES)):
            if isinstance(thing, str):
                self.refuses(read_rules, thing, 0)

    def test_blanks_and_empty_lines(self):
        for at, line in enumerate(LINES):
            for bent in (
                "", " ", " " + line, line + " ", line.replace(" ", "  ", 1), line.replace(" ", "  "), "\t" + line,
                line.replace(" ", "\t", 1), line + "\t", line + "\r", line.upper(), line + " x", "x " + line, line + ":",
                line.replace(" ", ""), line.replace(" ", ",", 1), line + "\x0b", line + "\u2028", "\ufeff" + line,
            ):
                self.refuses_line(at, bent)

    def test_other_line_ends(self):
        for line_end in ("\r\n", "\r", "\u2028", "\x0b", "\x0c", "\x85"):
            self.refuses(read_rules, line_end.join(LINES) + line_end, 0)
        for at in range(5):
            self.refuses(read_rules, text_of(LINES[:at]) + LINES[at] + "\r\n" + text_of(LINES[at + 1:]), at)

    def test_lines_in_another_order(self):
        for at in range(4):
            lines = list(LINES)
            lines[at], lines[at + 1] = lines[at + 1], lines[at]
            self.refuses(read_rules, text_of(lines), at)
            self.refuses(read_rules, text_of(LINES[:at] + LINES[at + 1:]), at)
            self.refuses(read_rules, text_of(LINES[:at + 1] + LINES[at:]), at + 1)

    def test_letters(self):
        for letters in ("ba", "aa", "abcdefg", "aB", "A", "a1", "1", "ab,", "\u00e9", "a b", "a" * 5000):
            self.refuses_line(0, "letters " + letters)
        self.refuses_line(0, "letters")

    def test_pairs(self):
        for word in NO_NUMBERS + ("100", "-100", "999", ""):
            self.refuses_line(1, f"pairs aa:{word}")
            self.refuses_line(1, f"pairs aa:-3 ab:{word}")
        for words in (
            "ab:1 aa:1", "aa:1 aa:1", "aa:1 aa:2", "ac:1", "a:1", "aab:1", ":1", "aa", "aa:", "aa:1:2", "aa::1", "1:aa",
            "AA:1", "aa:1,ab:2", "aa;1", "aa:1 x", "aa: 1", "aa :1", "\u00e9a:1",
        ):
            self.refuses_line(1, "pairs " + words)
        texts = sorted(first + second for first in "abcd" for second in "abcd")
        many = "letters abcd\npairs " + " ".join(text + ":1" for text in texts[:13]) + "\n" + text_of(LINES[2:])
        self.refuses(read_rules, many, 1)
        few = "letters abcd\npairs " + " ".join(text + ":1" for text in texts[:12]) + "\n" + text_of(LINES[2:])
        self.assertEqual(len(read_rules(few)[1]), 12)

    def test_span(self):
        for word in NO_NUMBERS + ("4", "-1", "10", "99", "100", "", "0 0", "1 2"):
            self.refuses_line(2, f"span {word}")
        self.refuses_line(2, "span")
        for span in range(4):
            self.assertEqual(read_rules(text_of(LINES[:2] + (f"span {span}",) + LINES[3:]))[2], span)

    def test_loops(self):
        for word in NO_NUMBERS + ("100", "-100", "", "1:1"):
            for at in (0, 4, 8):
                words = ["1"] * 9
                words[at] = word
                self.refuses_line(3, "loops " + " ".join(words))
        for many in (0, 1, 8, 10, 18):
            self.refuses_line(3, " ".join(["loops"] + ["0"] * many))

    def test_stacks(self):
        for word in NO_NUMBERS + ("100", "-100", ""):
            self.refuses_line(4, f"stacks aa:aa:{word}")
        for words in (
            "ab:ab:1 aa:aa:1", "aa:aa:1 aa:aa:1", "aa:aa:1 aa:aa:2", "aa:bb:1", "bb:aa:1", "aa:aa", "aa:1", "aa", "aa:aa:aa:1",
            "aa:aa:", ":aa:1", "aa::1", "a:a:1", "aa:aa:1 x", "AA:aa:1",
        ):
            self.refuses_line(4, "stacks " + words)

    def test_rules_that_can_not_be_by_the_lines_ahead(self):
        # The same line stands by other lines ahead of it.
        self.refuses(read_rules, text_of(("letters a",) + LINES[1:]), 1)
        self.refuses(read_rules, text_of(("letters ab", "pairs aa:-3") + LINES[2:]), 4)
        self.refuses(read_rules, text_of(("letters ab", "pairs") + LINES[2:]), 4)
        self.assertEqual(read_rules(text_of(("letters ab", "pairs") + LINES[2:4] + ("stacks",)))[4], ())

    def test_names(self):
        self.assertEqual(names_of(read_rules), (["text"], {}))
        self.assertEqual(read_rules.__module__, reader_file.__name__)


class ReadProgramTest(ReadTest):

    def refuses_line(self, line):
        """That a program is refused at the line, wherever it stands."""
        for ahead in ((), ("least",), ("string ab", "has 0 1")):
            for behind in ((), ("count",), ("x",)):
                self.refuses(read_program, text_of(ahead + (line,) + behind), len(ahead))

    def test_by_hand(self):
        text = (
            "string\nstring ab\nletter 0 b\nletter 99 z\nleast\ncount\nworth\nworth (.)\nworth ))((\nhas 0 1\nhas 10 9\n"
            "within 0\nwithin 20\n"
        )
        self.assertEqual(ask_both_ways(self, read_program, text=text), (
            ("string", ""), ("string", "ab"), ("letter", 0, "b"), ("letter", 99, "z"), ("least",), ("count",),
            ("worth", ""), ("worth", "(.)"), ("worth", "))(("), ("has", 0, 1), ("has", 10, 9), ("within", 0), ("within", 20),
        ))

    def test_the_text_without_signs(self):
        self.assertEqual(read_program(""), ())

    def test_what_is_written_is_read_back(self):
        draw = random.Random(9)
        for turn in range(300):
            program = some_program(draw)
            told = read_program(show_program(program))
            self.assertEqual(repr(told), repr(program))
            self.assertEqual(show_program(told), show_program(program))

    def test_no_text(self):
        for thing in NO_TEXTS:
            self.refuses(read_program, thing, None)

    def test_other_lines(self):
        for line in (
            "", " ", "x", "least ", " least", "least x", "least least", "count 0", "Least", "LEAST", "least\t", "least\r",
            "string ", "string  ab", "string ab ", " string ab", "string a b", "string A", "string 1", "string a1",
            "string " + "a" * 41, "string \u00e9", "string\tab", "string ()", "worth ", "worth x", "worth () ", "worth ( )",
            "worth [", "worth " + "." * 41, "worth () ()", "worth 1", "letter", "letter 0", "letter a", "letter a 0",
            "letter 0 ab", "letter 0 A", "letter 0 1", "letter 0 a b", "letter  0 a", "letter 0  a", "letter 0 a ", "has",
            "has 0", "has 0 1 2", "has  0 1", "has 0 1 ", "has a b", "has 0,1", "within", "within 0 1", "within ", "within a",
            "strings ab", "string:ab", "made", "fold", "rules", "run", "number ()",
        ):
            self.refuses_line(line)

    def test_numbers(self):
        for word in NO_NUMBERS + ("100", "-1", "999", "1" * 60):
            for line in (f"letter {word} a", f"has {word} 1", f"has 0 {word}", f"within {word}"):
                self.refuses_line(line)
        for number in (0, 1, 9, 10, 99):
            told = read_program(f"letter {number} a\nhas {number} {number}\nwithin {number}\n")
            self.assertEqual(told, (("letter", number, "a"), ("has", number, number), ("within", number)))

    def test_longest_texts(self):
        told = (("string", "z" * 40), ("worth", "(" * 40))
        self.assertEqual(read_program(show_program(told)), told)

    def test_line_ends(self):
        self.refuses(read_program, "least", 0)
        self.refuses(read_program, "least\ncount", 1)
        self.refuses(read_program, "least\n\n", 1)
        self.refuses(read_program, "\n", 0)
        self.refuses(read_program, "\nleast\n", 0)
        self.refuses(read_program, "least\r\ncount\r\n", 0)
        self.refuses(read_program, "least\rcount\r", 0)
        self.refuses(read_program, "least\n ", 1)

    def test_the_first_wrong_line(self):
        self.refuses(read_program, "least\nx\ny", 1)
        self.refuses(read_program, "least\ncount\ny", 2)

    def test_a_line_too_many(self):
        self.assertEqual(read_program("least\n" * 20), (("least",),) * 20)
        for text in (
            "least\n" * 21, "least\n" * 20 + "least", "least\n" * 20 + "\n", "least\n" * 20 + "x\n", "least\n" * 20 + " ",
            "least\n" * 30, "least\n" * 5000,
        ):
            self.refuses(read_program, text, 20)
        self.refuses(read_program, "least\n" * 19 + "x\n" + "least\n", 19)
        self.refuses(read_program, "least\n" * 19 + "least", 19)

    def test_names(self):
        self.assertEqual(names_of(read_program), (["text"], {}))
        self.assertEqual(read_program.__module__, reader_file.__name__)


class ReadFoldingTest(unittest.TestCase):

    def test_what_is_written_is_read_back(self):
        for rules in ALL_RULES:
            for string in some_texts(rules[0], 6, 3) + ["", rules[0]]:
                for folding in every_folding(rules, string):
                    told = read_folding(rules, string, brackets(string, folding))
                    self.assertEqual(repr(told), repr(folding))

    def test_all_short_texts(self):
        for rules, string in ((ODD, "abab"), (SPANNED, "abb"), (WIDE, "ab"), (ONE_LETTER, ""), (ONE_LETTER, "a")):
            foldings = every_folding(rules, string)
            written = {brackets(string, folding): folding for folding in foldings}
            all_pairs = (("aa", 0), ("ab", 0), ("ac", 0), ("ba", 0), ("bb", 0), ("bc", 0), ("ca", 0), ("cb", 0), ("cc", 0))
            matched = [brackets(string, told) for told in every_folding(("abc", all_pairs, 0), string)]
            for length in range(6):
                for text in all_texts("(.)", length):
                    if text in written:
                        self.assertEqual(ask_both_ways(self, read_folding, rules=rules, string=string, text=text), written[text])
                    elif text in matched:
                        with self.assertRaises(NoFolding):
                            read_folding(rules, string, text)
                    else:
                        self.refuses(rules, string, text)

    def refuses(self, rules, string, text):
        with self.assertRaises(NoText) as caught:
            read_folding(rules, string, text)
        self.assertIsNone(caught.exception.at)

    def test_whatever(self):
        for string in ("", "a", "abab"):
            for thing in WHATEVER + ("(())\n", "[][]", "()()()", "() .", "aaaa", ((0, 1),), 5, ["(", ")", ".", "."], "....."):
                if thing != "" or string:
                    self.refuses(ODD, string, thing)

    def test_names(self):
        self.assertEqual(names_of(read_folding), (["rules", "string", "text"], {}))
        self.assertEqual(read_folding.__module__, reader_file.__name__)


if __name__ == "__main__":
    unittest.main()
