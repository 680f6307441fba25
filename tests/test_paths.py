"""Point 7: paths, gone along and found."""

import itertools
import unittest

from squaresheet.errors import NoSquare, NoWord, SheetError
from squaresheet.sheets import gone, path_between

from samples import ABSENT, THREE, small_sheets

# Its steps to the right, left, up and down all differ: to each of 0 to 4 add 1, 4, 2, 3 (less 5 where too great).
FIVE = ((1, 2, 3, 4, 0), (2, 3, 4, 0, 1))
# One row of 36 squares, and a staircase in which right and up steps take turns.
RING = (tuple(range(1, 36)) + (0,), tuple(range(36)))
SWAPS = tuple(k + 1 if k % 2 == 0 else k - 1 for k in range(36))
STAIRS = (SWAPS, (0,) + tuple(k + 1 for k in SWAPS[:34]) + (35,))
BACK = {"r": "l", "l": "r", "u": "d", "d": "u"}


class Gone(unittest.TestCase):
    def test_each_letter(self):
        for square in range(5):
            for letter, step in (("r", 1), ("l", 4), ("u", 2), ("d", 3)):
                with self.subTest(square=square, letter=letter):
                    self.assertEqual(gone(FIVE, square, letter), (square + step) % 5)

    def test_each_letter_on_small_sheets(self):
        for right, up in small_sheets(4):
            for square in range(len(right)):
                self.assertEqual(gone((right, up), square, "r"), right[square])
                self.assertEqual(gone((right, up), square, "u"), up[square])
                self.assertEqual(gone((right, up), square, "l"), right.index(square))
                self.assertEqual(gone((right, up), square, "d"), up.index(square))

    def test_the_first_letter_first(self):
        self.assertEqual(gone(THREE, 0, "ru"), 1)
        self.assertEqual(gone(THREE, 0, "ur"), 2)
        self.assertEqual(gone(THREE, 2, "dr"), 1)
        self.assertEqual(gone(THREE, 2, "rd"), 0)

    def test_the_empty_path(self):
        for square in range(3):
            self.assertEqual(gone(THREE, square, ""), square)
        self.assertEqual(gone(((0,), (0,)), 0, ""), 0)

    def test_long_paths(self):
        self.assertEqual(gone(RING, 0, "r" * 2000), 2000 % 36)
        self.assertEqual(gone(RING, 7, "l" * 1999), (7 - 1999) % 36)
        self.assertEqual(gone(RING, 7, "ud" * 1000), 7)
        self.assertEqual(gone(STAIRS, 0, "ru" * 17 + "r"), 35)
        self.assertEqual(gone(((0,), (0,)), 0, "rlud" * 500), 0)

    def test_the_path_back_leads_back(self):
        path = "rrulddrurludlrrudd" * 100
        back = "".join(BACK[letter] for letter in reversed(path))
        for sheet in (THREE, FIVE, RING, STAIRS):
            for square in range(len(sheet[0])):
                self.assertEqual(gone(sheet, gone(sheet, square, path), back), square)

    def test_absent_squares(self):
        for square in ABSENT + (3, 4):
            with self.subTest(square=square), self.assertRaises(NoSquare):
                gone(THREE, square, "r")
        for square in ABSENT:
            with self.subTest(square=square), self.assertRaises(NoSquare):
                gone(RING, square, "")

    def test_another_letter(self):
        for path in ("x", "R", "s", "t", " ", "r ", " r", "rx", "xr", "rluD", "r\n", "0", "r" * 100 + "."):
            with self.subTest(path=path), self.assertRaises(NoWord):
                gone(THREE, 0, path)

    def test_an_absent_square_comes_ahead_of_another_letter(self):
        for square in ABSENT:
            with self.subTest(square=square), self.assertRaises(SheetError) as caught:
                gone(THREE, square, "x")
            self.assertIs(type(caught.exception), NoSquare)

    def test_the_arguments_have_their_names(self):
        self.assertEqual(gone(sheet=THREE, square=0, path="u"), 2)


class PathBetween(unittest.TestCase):
    def check(self, sheet):
        squares = len(sheet[0])
        for one, other in itertools.product(range(squares), repeat=2):
            path = path_between(sheet, one, other)
            with self.subTest(sheet=sheet, one=one, other=other):
                self.assertIs(type(path), str)
                self.assertEqual(set(path) - set("rlud"), set())
                self.assertLess(len(path), squares)
                self.assertEqual(gone(sheet, one, path), other)
                self.assertEqual(path_between(sheet, one, other), path)
                if one == other:
                    self.assertEqual(path, "")

    def test_small_sheets(self):
        for sheet in small_sheets(4):
            self.check(sheet)

    def test_great_sheets(self):
        for sheet in (FIVE, RING, (RING[1], RING[0]), STAIRS):
            self.check(sheet)

    def test_a_path_that_needs_all_the_letters_there_may_be(self):
        self.assertEqual(len(path_between(STAIRS, 0, 35)), 35)

    def test_absent_squares(self):
        for square in ABSENT + (3, 4):
            for one, other in ((square, 0), (0, square), (square, square)):
                with self.subTest(one=one, other=other), self.assertRaises(NoSquare):
                    path_between(THREE, one, other)

    def test_the_arguments_have_their_names(self):
        self.assertEqual(path_between(sheet=THREE, one=2, other=2), "")
