import random
import unittest

from pairfolds import programs as programs_file
from pairfolds.programs import is_program
from tests.helper import WHATEVER, ask_both_ways, deep, names_of, some_program

LINES = (
    ("string", ""), ("string", "a"), ("string", "z" * 40), ("letter", 0, "a"), ("letter", 99, "z"), ("least",), ("count",),
    ("worth", ""), ("worth", "(.)"), ("worth", ")" * 40), ("has", 0, 0), ("has", 99, 0), ("has", 3, 99), ("within", 0),
    ("within", 99),
)
NO_LINES = (
    (), ("string",), ("string", "a", "b"), ("string", "A"), ("string", "a1"), ("string", "a b"), ("string", "a\n"),
    ("string", "\u00e9"), ("string", "a" * 41), ("string", None), ("string", 5), ("string", ("a",)), ("string", ["a"]),
    ("letter",), ("letter", 0), ("letter", "a"), ("letter", "a", 0), ("letter", 0, ""), ("letter", 0, "ab"),
    ("letter", 0, "A"), ("letter", 0, "1"), ("letter", 0, None), ("letter", 0, 0), ("letter", 0, ["a"]), ("letter", -1, "a"),
    ("letter", 100, "a"), ("letter", True, "a"), ("letter", False, "a"), ("letter", None, "a"), ("letter", "0", "a"),
    ("letter", 10 ** 99, "a"), ("letter", 0, "a", 0), ("letter", 0, "\u00e9"), ("least", ""), ("least", 0), ("least", None),
    ("count", 0), ("count", ()), ("worth",), ("worth", "x"), ("worth", "( )"), ("worth", "()\n"), ("worth", "." * 41),
    ("worth", None), ("worth", ()), ("worth", ((0, 1),)), ("worth", 0), ("worth", "()", "()"), ("has",), ("has", 0),
    ("has", 0, 1, 2), ("has", -1, 0), ("has", 0, -1), ("has", 100, 0), ("has", 0, 100), ("has", True, 2), ("has", 0, True),
    ("has", (0, 1)), ("has", "0", "1"), ("has", None, None), ("has", 0, 10 ** 99), ("within",), ("within", -1), ("within", 100),
    ("within", False), ("within", True), ("within", "1"), ("within", None), ("within", 0, 0), ("within", 10 ** 99),
    ("Least",), ("least ",), ("",), ("x",), (None,), (5,), (True,), (("least",),), (["least"],), ({},), ("made",), ("fold",),
    ["least"], ["string", "a"], "least", "string", {"least": 0}, {0: "least"}, None, 5, True, "", deep(11),
)


class IsProgramTest(unittest.TestCase):

    def test_each_line(self):
        for line in LINES:
            self.assertIs(ask_both_ways(self, is_program, thing=(line,)), True, line)
            self.assertIs(is_program((line,) * 20), True, line)
            self.assertIs(is_program((line,) * 21), False, line)
            self.assertIs(is_program([line]), False, line)
            self.assertIs(is_program((list(line),)), False, line)
            self.assertIs(is_program(line), False, line)

    def test_many_lines(self):
        self.assertIs(is_program(()), True)
        self.assertIs(is_program(LINES), True)
        self.assertIs(is_program((LINES * 2)[:20]), True)
        self.assertIs(is_program((LINES * 2)[:21]), False)
        self.assertIs(is_program((("least",),) * 4999), False)

    def test_drawn(self):
        draw = random.Random(2)
        for turn in range(200):
            program = some_program(draw)
            self.assertIs(is_program(program), True, program)

    def test_no_lines(self):
        for line in NO_LINES:
            for program in ((line,), (("least",), line), (line, ("count",)), LINES + (line,)):
                self.assertIs(is_program(program), False, line)

    def test_whatever(self):
        for thing in WHATEVER:
            self.assertIs(ask_both_ways(self, is_program, thing=thing), False, thing)
            self.assertIs(is_program((thing,)), False, thing)
            self.assertIs(is_program((("least",), thing)), False, thing)
            self.assertIs(is_program(((thing,),)), False, thing)
            self.assertIs(is_program((("within", thing),)), type(thing) is int and 0 <= thing <= 99, thing)

    def test_names(self):
        self.assertEqual(names_of(is_program), (["thing"], {}))
        self.assertEqual(is_program.__module__, programs_file.__name__)


if __name__ == "__main__":
    unittest.main()
