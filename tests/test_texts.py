"""Point 8: sheets written and read."""

import itertools
import unittest

from squaresheet.errors import NoSheet, NoText, NotTogether, SheetError
from squaresheet.sheets import groups, sheet_of
from squaresheet.texts import read, shown

SIGNS = "0123456789abcdefghijklmnopqrstuvwxyz"
RING = (tuple(range(1, 36)) + (0,), tuple(range(36)))
RING_TEXT = SIGNS[1:] + "0 " + SIGNS


class Written(unittest.TestCase):
    def test_the_sheet_of_the_document(self):
        self.assertEqual(shown(((1, 0, 2), (2, 1, 0))), "102 210")
        self.assertEqual(read("102 210"), ((1, 0, 2), (2, 1, 0)))

    def test_one_square(self):
        self.assertEqual(shown(((0,), (0,))), "0 0")
        self.assertEqual(read("0 0"), ((0,), (0,)))

    def test_thirty_six_squares(self):
        self.assertEqual(shown(RING), RING_TEXT)
        self.assertEqual(read(RING_TEXT), RING)

    def test_what_is_written_is_read_to_the_same_sheet(self):
        for length in range(1, 5):
            rows = list(itertools.permutations(range(length)))
            for right, up in itertools.product(rows, rows):
                if len(groups(right, up)) == 1:
                    sheet = sheet_of(right, up)
                    self.assertEqual(read(shown(sheet)), sheet)

    def test_what_is_read_is_a_tuple_of_two_tuples_of_whole_numbers(self):
        sheet = read("102 210")
        self.assertIs(type(sheet), tuple)
        self.assertEqual([type(row) for row in sheet], [tuple, tuple])
        self.assertEqual([type(square) for row in sheet for square in row], [int] * 6)

    def test_asked_again_the_same_is_told(self):
        self.assertEqual(read(RING_TEXT), read(RING_TEXT))
        self.assertEqual(shown(RING), shown(RING))

    def test_the_arguments_have_their_names(self):
        self.assertEqual(shown(sheet=((0,), (0,))), "0 0")
        self.assertEqual(read(text="0 0"), ((0,), (0,)))


class Refused(unittest.TestCase):
    def refuse(self, refusal, text):
        with self.subTest(text=text), self.assertRaises(SheetError) as caught:
            read(text)
        self.assertIs(type(caught.exception), refusal)
        return caught.exception

    def test_words_and_blanks(self):
        for text in (
            "", " ", "  ", "   ", "0", "102", "0 ", " 0", "0 0 0", "102 210 012", "102 210 ", " 102 210",
            "102  210", " 102 210 ", "1 02 210", "102\t210", "102\n210", "102 210\n", "\n102 210", "102 \t210",
            "102,210", "102_210",
        ):
            self.refuse(NoText, text)

    def test_other_signs(self):
        for text in ("A A", "10A 210", "102 21A", "1-0 210", "-0 10", "+0 10", "1.2 210", "0_1 012", "? ?", "(0) 0"):
            self.refuse(NoText, text)

    def test_signs_that_are_much_like_the_right_ones(self):
        for sign in ("\u0660", "\u00b2", "\uff10", "\u0430", "\u00e4", "\u00a0"):
            self.refuse(NoText, sign + " " + sign)

    def test_capital_letters(self):
        self.refuse(NoText, RING_TEXT.upper())
        self.refuse(NoText, RING_TEXT.replace("z", "Z"))

    def test_words_of_unlike_length(self):
        for text in ("0 01", "01 0", "102 21", "10 210", SIGNS + " " + SIGNS[:35]):
            self.refuse(NoText, text)

    def test_too_many_signs(self):
        self.refuse(NoText, SIGNS + "0 " + SIGNS + "0")
        self.refuse(NoText, "0" * 37 + " " + "0" * 37)
        self.refuse(NoText, "0" * 999 + " " + "0" * 999)

    def test_no_text_comes_ahead_of_no_sheet_and_not_together(self):
        for text in ("00 0A", "01 01 ", "99 9", "00  00", "01\t01"):
            self.refuse(NoText, text)

    def test_then_no_sheet(self):
        for text in ("1 0", "0 1", "z z", "00 01", "01 11", "02 01", "112 012", "012 0a1", "0" * 36 + " " + SIGNS):
            self.refuse(NoSheet, text)

    def test_no_sheet_comes_ahead_of_not_together(self):
        for text in ("012 011", "002 012", "013 012"):
            self.refuse(NoSheet, text)

    def test_then_not_together(self):
        for text, square in (("01 01", 1), ("012 210", 1), ("1023 0132", 2), (SIGNS + " " + SIGNS, 1)):
            self.assertEqual(self.refuse(NotTogether, text).square, square)
