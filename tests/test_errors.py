"""The interface of squaresheet/errors.py: the refusals and how they stand to one another."""

import unittest

from squaresheet import errors

PLAIN = (
    "NoSheet", "NoText", "NoSquare", "NoWord", "NoRenumbering", "NoNumber", "NoPlace",
    "NoWay", "NoTable", "TooMany", "NoDrawing", "NoRow", "NothingDone",
)
ALL = PLAIN + ("NotTogether",)


def made(name):
    refusal = getattr(errors, name)
    return refusal(3) if name == "NotTogether" else refusal("words")


class Refusals(unittest.TestCase):
    def test_sheet_error_is_straight_under_value_error(self):
        self.assertEqual(errors.SheetError.__bases__, (ValueError,))

    def test_there_are_fourteen_each_straight_under_sheet_error(self):
        self.assertEqual(len(set(ALL)), 14)
        for name in ALL:
            with self.subTest(name):
                self.assertEqual(getattr(errors, name).__bases__, (errors.SheetError,))

    def test_each_is_a_sheet_error_and_a_value_error_and_none_of_the_others(self):
        for name in ALL:
            error = made(name)
            self.assertIsInstance(error, errors.SheetError)
            self.assertIsInstance(error, ValueError)
            for other in ALL:
                with self.subTest(name, other=other):
                    self.assertEqual(isinstance(error, getattr(errors, other)), name == other)

    def test_each_can_be_raised_and_taken_by_its_name(self):
        for name in ALL:
            with self.subTest(name), self.assertRaises(getattr(errors, name)):
                raise made(name)

    def test_the_plain_ones_need_no_words(self):
        for name in PLAIN:
            with self.subTest(name):
                self.assertIsInstance(getattr(errors, name)(), errors.SheetError)

    def test_not_together_holds_its_square(self):
        self.assertEqual(errors.NotTogether(5).square, 5)
        self.assertEqual(errors.NotTogether(square=0).square, 0)

    def test_not_together_is_made_of_a_square(self):
        with self.assertRaises(TypeError):
            errors.NotTogether()
