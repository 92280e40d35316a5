import unittest

from pairfolds import texts as texts_file
from pairfolds.texts import show_program, show_rules
from tests.helper import CHEAP, NO_PAIRS, ODD, ONE_LETTER
from tests.helper import ask_both_ways, names_of

PROGRAM = (
    ("string", ""), ("string", "ab"), ("letter", 0, "b"), ("letter", 99, "z"), ("least",), ("count",), ("worth", ""),
    ("worth", "(.)"), ("has", 0, 1), ("has", 10, 99), ("within", 0), ("within", 20),
)


class RulesTextTest(unittest.TestCase):

    def test_by_hand(self):
        for rules, text in (
            (ODD, (
                "letters abc\npairs aa:-3 ab:-17 ba:5 cb:-29\nspan 0\nloops -7 11 2 -13 -19 1 4 3 -1\n"
                "stacks ab:ab:-31 ab:ba:23 ba:ab:-37 cb:aa:41\n"
            )),
            (ONE_LETTER, "letters a\npairs aa:-2\nspan 0\nloops -1 1 0 3 -4 1 2 0 -1\nstacks aa:aa:-2\n"),
            (NO_PAIRS, "letters ab\npairs\nspan 0\nloops 1 2 3 4 5 6 7 8 9\nstacks\n"),
            (CHEAP, (
                "letters ab\npairs ab:-99 ba:-98\nspan 0\nloops -99 -98 -97 -96 -95 -94 -93 -92 -91\nstacks ab:ba:-99\n"
            )),
            (("abcdef", (("fa", 0),), 3, (0,) * 9, ()), (
                "letters abcdef\npairs fa:0\nspan 3\nloops 0 0 0 0 0 0 0 0 0\nstacks\n"
            )),
        ):
            self.assertEqual(ask_both_ways(self, show_rules, rules=rules), text)

    def test_names(self):
        self.assertEqual(names_of(show_rules), (["rules"], {}))
        self.assertEqual(show_rules.__module__, texts_file.__name__)


class ProgramTextTest(unittest.TestCase):

    def test_by_hand(self):
        self.assertEqual(ask_both_ways(self, show_program, program=()), "")
        self.assertEqual(ask_both_ways(self, show_program, program=PROGRAM), (
            "string\nstring ab\nletter 0 b\nletter 99 z\nleast\ncount\nworth\nworth (.)\nhas 0 1\nhas 10 99\nwithin 0\n"
            "within 20\n"
        ))

    def test_each_line_alone(self):
        for line, text in zip(PROGRAM, show_program(PROGRAM).splitlines(keepends=True)):
            self.assertEqual(show_program((line,)), text)
        self.assertEqual(show_program((("worth", "." * 40),) * 20), ("worth " + "." * 40 + "\n") * 20)

    def test_names(self):
        self.assertEqual(names_of(show_program), (["program"], {}))
        self.assertEqual(show_program.__module__, texts_file.__name__)


if __name__ == "__main__":
    unittest.main()
