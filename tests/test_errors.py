import unittest

from pairfolds import errors
from pairfolds.errors import FoldError, NoFolding, NoNumber, NoPlace, NoRules, NoString, NoText

UNDER_FOLD_ERROR = (NoRules, NoString, NoFolding, NoText)


class ErrorsTest(unittest.TestCase):

    def test_fold_error_stands_straight_under_value_error(self):
        self.assertEqual(FoldError.__bases__, (ValueError,))
        self.assertEqual(str(FoldError("why")), "why")

    def test_those_under_fold_error_stand_under_no_other_one(self):
        for error in UNDER_FOLD_ERROR:
            self.assertEqual(error.__bases__, (FoldError,), error)

    def test_number_and_place_stand_aside(self):
        self.assertEqual(NoNumber.__bases__, (IndexError,))
        self.assertEqual(NoPlace.__bases__, (KeyError,))
        self.assertFalse(issubclass(NoNumber, ValueError))
        self.assertFalse(issubclass(NoPlace, ValueError))

    def test_all_are_defined_in_their_file(self):
        for error in (FoldError, NoNumber, NoPlace, *UNDER_FOLD_ERROR):
            self.assertEqual(error.__module__, errors.__name__)

    def test_part(self):
        for part in ("letters", "pairs", "span", "loops", "stacks"):
            self.assertEqual(NoRules(part).part, part)
            self.assertEqual(NoRules(part=part).part, part)

    def test_at(self):
        for at in (None, 0, 5):
            self.assertEqual(NoText(at).at, at)
            self.assertEqual(NoText(at=at).at, at)

    def test_place(self):
        for place in (None, 0, -1, "x", (1, 2), [3], {}):
            self.assertEqual(NoPlace(place).place, place)
            self.assertEqual(NoPlace(place=place).place, place)

    def test_fields_are_asked_for(self):
        for error in (NoRules, NoText, NoPlace):
            with self.assertRaises(TypeError):
                error()

    def test_those_without_a_field_are_made_with_a_text(self):
        for error in (NoString, NoFolding, NoNumber):
            self.assertEqual(str(error("why")), "why")

    def test_caught_by_what_they_stand_under(self):
        raised = (
            (NoRules("span"), FoldError), (NoString("x"), FoldError), (NoFolding("x"), FoldError),
            (NoText(3), FoldError), (NoText(None), ValueError), (NoNumber("x"), IndexError), (NoPlace(7), KeyError),
        )
        for error, above in raised:
            with self.assertRaises(above) as caught:
                raise error
            self.assertEqual(type(caught.exception), type(error))
            self.assertIsInstance(str(error), str)


if __name__ == "__main__":
    unittest.main()
