"""Points 9 and 10, and 4 of them: rounds, plain corners, corners, turns, counts."""

import unittest

from squaresheet.corners import corners, counts, is_plain, round_of, turns
from squaresheet.errors import NoSquare
from squaresheet.texts import read

from samples import ABSENT, ONE, THREE, block, great_sheets, slit, small_sheets

MANY = list(small_sheets(4)) + great_sheets()


def one_turn(sheet, square):
    """First left, then down, then right, then up, reckoned by looking for the square in the rows."""
    right, up = sheet
    return up[right[up.index(right.index(square))]]


class Rounds(unittest.TestCase):
    def test_the_sheet_of_the_document(self):
        self.assertEqual(round_of(THREE, 0), [0, 2, 1])
        self.assertEqual(round_of(THREE, 1), [1, 0, 2])
        self.assertEqual(round_of(THREE, 2), [2, 1, 0])

    def test_one_square(self):
        self.assertEqual(round_of(ONE, 0), [0])

    def test_a_sheet_with_several_corners(self):
        # Rows 0 1 2 3 and 4 5 6 7; the upper sides of 0 and 2 are sewn crosswise.
        sheet = slit(block(4, 2), 0, 2)
        self.assertEqual([round_of(sheet, square) for square in (4, 6)], [[4, 6], [6, 4]])
        self.assertEqual([round_of(sheet, square) for square in (5, 7)], [[5, 7], [7, 5]])
        self.assertEqual([round_of(sheet, square) for square in range(4)], [[0], [1], [2], [3]])

    def test_each_goes_on_by_one_turn_and_comes_round(self):
        for sheet in MANY:
            for square in range(len(sheet[0])):
                told = round_of(sheet, square)
                self.assertEqual(told[0], square)
                self.assertEqual(len(set(told)), len(told))
                self.assertEqual([one_turn(sheet, near) for near in told], told[1:] + [square])

    def test_absent_squares(self):
        for square in ABSENT + (3, 4):
            for ask in (round_of, is_plain):
                with self.subTest(ask=ask, square=square), self.assertRaises(NoSquare):
                    ask(THREE, square)
        for square in ABSENT:
            for ask in (round_of, is_plain):
                with self.subTest(ask=ask, square=square), self.assertRaises(NoSquare):
                    ask(block(6, 6), square)

    def test_plain_corners_and_others(self):
        sheet = slit(block(4, 2), 0, 2)
        self.assertEqual([is_plain(sheet, square) for square in range(8)], [True] * 4 + [False] * 4)
        self.assertIs(is_plain(ONE, 0), True)
        for square in range(3):
            self.assertIs(is_plain(THREE, square), False)
        for square in range(36):
            self.assertIs(is_plain(block(6, 6, 5), square), True)

    def test_a_corner_is_plain_where_one_turn_leads_to_its_square(self):
        for sheet in MANY:
            for square in range(len(sheet[0])):
                self.assertIs(is_plain(sheet, square), one_turn(sheet, square) == square)


class Corners(unittest.TestCase):
    def test_the_sheets_of_the_document(self):
        self.assertEqual(corners(THREE), [[0, 2, 1]])
        self.assertEqual(turns(THREE), [3])
        self.assertEqual(counts(THREE), (1, 6, 3, 2))
        self.assertEqual(corners(ONE), [[0]])
        self.assertEqual(turns(ONE), [1])
        self.assertEqual(counts(ONE), (1, 2, 1, 1))

    def test_a_sheet_with_several_corners(self):
        sheet = slit(block(4, 2), 0, 2)
        self.assertEqual(corners(sheet), [[0], [1], [2], [3], [4, 6], [5, 7]])
        self.assertEqual(turns(sheet), [1, 1, 1, 1, 2, 2])
        self.assertEqual(counts(sheet), (6, 16, 8, 2))

    def test_the_turns_rise_where_the_rounds_do_not(self):
        sheet = read("123450 102345")
        self.assertEqual(corners(sheet), [[0, 1, 2], [3], [4], [5]])
        self.assertEqual(turns(sheet), [1, 1, 1, 3])

    def test_thirty_six_squares(self):
        self.assertEqual(corners(block(6, 6)), [[square] for square in range(36)])
        self.assertEqual(turns(block(36, 1, 5)), [1] * 36)
        self.assertEqual(counts(block(6, 6)), (36, 72, 36, 1))
        self.assertEqual(counts(slit(block(6, 6), 0, 3)), (34, 72, 36, 2))

    def test_each_round_from_its_least_square_on_the_rounds_sorted(self):
        for sheet in MANY:
            told = corners(sheet)
            self.assertEqual([corner[0] for corner in told], [min(corner) for corner in told])
            self.assertEqual(told, sorted(told))
            self.assertEqual(told, [round_of(sheet, corner[0]) for corner in told])

    def test_each_square_is_in_just_one(self):
        for sheet in MANY:
            squares = sorted(square for corner in corners(sheet) for square in corner)
            self.assertEqual(squares, list(range(len(sheet[0]))))

    def test_turns_rise_and_are_the_lengths(self):
        for sheet in MANY:
            self.assertEqual(turns(sheet), sorted(len(corner) for corner in corners(sheet)))

    def test_counts(self):
        for sheet in MANY:
            points, sides, squares, handles = counts(sheet)
            self.assertEqual((points, squares), (len(corners(sheet)), len(sheet[0])))
            self.assertEqual(sides, 2 * squares)
            self.assertEqual(points - sides + squares, 2 - 2 * handles)
            self.assertGreaterEqual(handles, 1)
            self.assertEqual([count.__class__ for count in counts(sheet)], [int] * 4)
            self.assertIs(counts(sheet).__class__, tuple)

    def test_turns_each_less_one_come_to_twice_the_handles_less_two(self):
        for sheet in MANY:
            self.assertEqual(sum(turn - 1 for turn in turns(sheet)), 2 * counts(sheet)[3] - 2)


class KeptApart(unittest.TestCase):
    def test_each_list_that_is_told_is_a_new_one(self):
        sheet = slit(block(4, 2), 0, 2)
        for ask in (lambda: round_of(sheet, 4), lambda: turns(sheet)):
            one, other = ask(), ask()
            one.append(99)
            self.assertNotEqual(one, other)
            self.assertEqual(ask(), other)
        one, other = corners(sheet), corners(sheet)
        for corner in one:
            corner.append(99)
        one.clear()
        self.assertEqual(other, [[0], [1], [2], [3], [4, 6], [5, 7]])
        self.assertEqual(corners(sheet), other)

    def test_asked_again_the_same_is_told(self):
        for sheet in MANY:
            for ask in (corners, turns, counts):
                self.assertEqual(ask(sheet), ask(sheet))

    def test_the_arguments_have_their_names(self):
        self.assertEqual(round_of(sheet=THREE, square=0), [0, 2, 1])
        self.assertIs(is_plain(sheet=THREE, square=0), False)
        self.assertEqual(corners(sheet=THREE), [[0, 2, 1]])
        self.assertEqual(turns(sheet=THREE), [3])
        self.assertEqual(counts(sheet=THREE), (1, 6, 3, 2))
