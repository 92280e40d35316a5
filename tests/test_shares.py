import fractions
import math
import unittest

from pairfolds import shares as shares_file
from pairfolds.shares import over, plus, share_of, times
from tests.helper import as_share, ask_both_ways, kinds_in, names_of

NUMBERS = tuple(range(-12, 13)) + (36, -36, 97, -97, 1001, 2 ** 70, -(2 ** 70), 10 ** 30 * 6, 3 ** 40 * 4)
SHARES = ((0, 1), (1, 1), (-1, 1), (2, 3), (-2, 3), (5, 6), (-7, 4), (9, 1), (-12, 35), (1, 10 ** 20), (10 ** 20, 9))


class SharesTest(unittest.TestCase):

    def test_share_of_by_fractions(self):
        for top in NUMBERS:
            self.assertEqual(share_of(top), (top, 1))
            for bottom in NUMBERS:
                if bottom != 0:
                    told = share_of(top, bottom)
                    self.assertEqual(told, as_share(fractions.Fraction(top, bottom)))
                    self.assertGreaterEqual(told[1], 1)
                    self.assertEqual(math.gcd(*told), 1)

    def test_share_of_by_hand(self):
        for top, bottom, share in (
            (6, 4, (3, 2)), (-6, 4, (-3, 2)), (6, -4, (-3, 2)), (-6, -4, (3, 2)), (0, 5, (0, 1)), (0, -5, (0, 1)),
            (5, 5, (1, 1)), (5, -5, (-1, 1)), (1, -1, (-1, 1)), (7, 1, (7, 1)), (-7, -1, (7, 1)), (3, 12, (1, 4)),
        ):
            self.assertEqual(ask_both_ways(self, share_of, top=top, bottom=bottom), share)
        self.assertEqual(share_of(top=-8), (-8, 1))
        self.assertEqual(share_of(8, bottom=-6), (-4, 3))

    def test_two_shares_by_fractions(self):
        for share in SHARES:
            for other in SHARES:
                left, right = fractions.Fraction(*share), fractions.Fraction(*other)
                self.assertEqual(plus(share, other), as_share(left + right))
                self.assertEqual(times(share, other), as_share(left * right))
                if other[0] != 0:
                    self.assertEqual(over(share, other), as_share(left / right))

    def test_two_shares_by_hand(self):
        for tell, share, other, made in (
            (plus, (1, 2), (1, 2), (1, 1)), (plus, (1, 6), (1, 3), (1, 2)), (plus, (1, 2), (-1, 2), (0, 1)),
            (times, (2, 3), (3, 2), (1, 1)), (times, (-2, 3), (3, 4), (-1, 2)), (times, (0, 1), (-5, 7), (0, 1)),
            (over, (2, 3), (4, 3), (1, 2)), (over, (2, 3), (-4, 3), (-1, 2)), (over, (-2, 3), (-4, 3), (1, 2)),
            (over, (0, 1), (-4, 3), (0, 1)), (over, (1, 1), (1, 5), (5, 1)), (over, (1, 2), (1, 1), (1, 2)),
        ):
            self.assertEqual(ask_both_ways(self, tell, share=share, other=other), made)

    def test_plain_kinds(self):
        for told in (share_of(4, -6), plus((1, 2), (1, 2)), times((1, 2), (2, 1)), over((1, 2), (1, 2))):
            self.assertEqual(kinds_in(told), {tuple, int})
            self.assertEqual(len(told), 2)

    def test_names(self):
        self.assertEqual(names_of(share_of), (["top", "bottom=1"], {}))
        for tell in (plus, times, over):
            self.assertEqual(names_of(tell), (["share", "other"], {}))
        for tell in (share_of, plus, times, over):
            self.assertEqual(tell.__module__, shares_file.__name__)


if __name__ == "__main__":
    unittest.main()
