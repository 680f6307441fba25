"""Points 11 and 12: renumbered sheets, what leads from one sheet to another one, numberings."""

import itertools
import random
import unittest

from squaresheet.errors import NoRenumbering, NoSquare
from squaresheet.numberings import leads, numbering, renumbered
from squaresheet.texts import read, shown

from samples import ABSENT, ONE, THREE, block, great_sheets, shuffled, small_sheets

MANY = list(small_sheets(4)) + great_sheets()
# For a sheet of three squares.
WRONG = (
    [], [0], [0, 1], [2, 1], [0, 1, 2, 3], [0, 1, 2, 2], [0, 0, 0], [0, 1, 1], [2, 2, 1], [1, 2, 3], [0, 1, 3],
    [-1, 0, 1], [0, 1, -1], [-3, -2, -1], [0, 1, 10 ** 59], [10 ** 59, 1, 0], [0, -(10 ** 59), 2],
    list(range(36)), list(range(37)), list(range(300)),
)


def turned_round(f):
    return [f.index(number) for number in range(len(f))]


class Renumbered(unittest.TestCase):
    def test_by_hand(self):
        # Square 0 gets 2, square 1 gets 0, square 2 gets 1.
        self.assertEqual(renumbered(THREE, [2, 0, 1]), ((2, 1, 0), (0, 2, 1)))
        self.assertEqual(shown(renumbered(read("1203 0132"), [3, 1, 0, 2])), "3021 2103")
        self.assertEqual(renumbered(ONE, [0]), ONE)

    def test_as_the_point_tells(self):
        for right, up in small_sheets(4):
            for f in itertools.permutations(range(len(right))):
                told = renumbered((right, up), list(f))
                for square, number in enumerate(f):
                    self.assertEqual(told[0][number], f[right[square]])
                    self.assertEqual(told[1][number], f[up[square]])

    def test_a_tuple_of_two_tuples_of_whole_numbers(self):
        told = renumbered(THREE, [2, 0, 1])
        self.assertIs(told.__class__, tuple)
        self.assertEqual([row.__class__ for row in told], [tuple, tuple])
        self.assertEqual([square.__class__ for row in told for square in row], [int] * 6)

    def test_and_back_by_the_list_turned_round(self):
        source = random.Random(11)
        for sheet in MANY:
            f = shuffled(source, len(sheet[0]))
            self.assertEqual(renumbered(renumbered(sheet, f), turned_round(f)), sheet)

    def test_the_list_that_leaves_all(self):
        for sheet in MANY:
            self.assertEqual(renumbered(sheet, list(range(len(sheet[0])))), sheet)

    def test_lists_that_are_no_renumbering(self):
        for f in WRONG:
            with self.subTest(f=f), self.assertRaises(NoRenumbering):
                renumbered(THREE, f)

    def test_lists_of_great_sheets_that_are_no_renumbering(self):
        good = list(range(36))
        for f in ([], good[:35], good + [36], good + [35], good[:35] + [34], good[:35] + [36], good[1:] + [-1],
                  good[:35] + [10 ** 59], [0] * 36, [0] * 300):
            with self.subTest(f=f), self.assertRaises(NoRenumbering):
                renumbered(block(6, 6), f)
        for f in ([], [1], [-1], [0, 0], [0, 1], [10 ** 59]):
            with self.subTest(f=f), self.assertRaises(NoRenumbering):
                renumbered(ONE, f)


class Leads(unittest.TestCase):
    def test_where_the_renumbered_sheet_is_the_other_one(self):
        for sheet in small_sheets(3):
            for f in itertools.permutations(range(len(sheet[0]))):
                self.assertIs(leads(sheet, renumbered(sheet, list(f)), list(f)), True)

    def test_where_it_is_not(self):
        self.assertIs(leads(THREE, THREE, [0, 1, 2]), True)
        self.assertIs(leads(THREE, THREE, [1, 0, 2]), False)
        self.assertIs(leads(THREE, ((2, 1, 0), (0, 2, 1)), [2, 0, 1]), True)
        self.assertIs(leads(THREE, ((2, 1, 0), (0, 2, 1)), [1, 2, 0]), False)
        self.assertIs(leads(((2, 1, 0), (0, 2, 1)), THREE, [2, 0, 1]), False)

    def test_all_pairs_of_small_sheets(self):
        sheets = list(small_sheets(3))
        for one, other in itertools.product(sheets, sheets):
            for f in itertools.permutations(range(len(one[0]))):
                same = len(one[0]) == len(other[0]) and all(
                    other[row][f[square]] == f[one[row][square]] for row in (0, 1) for square in range(len(f))
                )
                self.assertIs(leads(one, other, list(f)), same)

    def test_a_list_that_is_no_renumbering(self):
        for f in WRONG:
            with self.subTest(f=f):
                self.assertIs(leads(THREE, THREE, f), False)

    def test_sheets_with_unlike_many_squares(self):
        for f in ([0], [0, 1], [0, 1, 2], [1, 0], []):
            self.assertIs(leads(ONE, THREE, f), False)
            self.assertIs(leads(THREE, ONE, f), False)
            self.assertIs(leads(THREE, block(2, 1), f), False)
            self.assertIs(leads(block(2, 1), THREE, f), False)


class Numbering(unittest.TestCase):
    def test_the_right_one_ahead_of_the_upper_one(self):
        # At the right of 0 is 1, above it 2.
        self.assertEqual(numbering(THREE, 0), [0, 1, 2])
        # At the right of 1 is 0, above it 1 itself; above 0 is 2.
        self.assertEqual(numbering(THREE, 1), [1, 0, 2])
        # At the right of 2 is 2 itself, above it 0; at the right of 0 is 1.
        self.assertEqual(numbering(THREE, 2), [1, 2, 0])
        # Rows 0 1 2 and 3 4 5: first 0, then 1 and 3, then of 1 the squares 2 and 4, of 3 none, of 2 the square 5.
        self.assertEqual(numbering(block(3, 2), 0), [0, 1, 3, 2, 4, 5])
        self.assertEqual(numbering(block(3, 2), 4), [5, 2, 4, 3, 0, 1])
        self.assertEqual(numbering(ONE, 0), [0])

    def test_squares_are_gone_through_in_the_order_of_their_new_numbers(self):
        for right, up in MANY:
            for first in range(len(right)):
                f = numbering((right, up), first)
                squares = turned_round(f)
                self.assertEqual(squares[0], first)
                told = [first]
                for square in squares:
                    told += [near for near in (right[square],) if near not in told]
                    told += [near for near in (up[square],) if near not in told]
                self.assertEqual(squares, told)

    def test_a_new_renumbering_for_each_square(self):
        for sheet in great_sheets(10):
            squares = range(len(sheet[0]))
            told = [numbering(sheet, first) for first in squares]
            for first in squares:
                self.assertEqual(sorted(told[first]), list(squares))
                self.assertEqual(told[first][first], 0)

    def test_absent_squares(self):
        for square in ABSENT + (3, 4):
            with self.subTest(square=square), self.assertRaises(NoSquare):
                numbering(THREE, square)
        for square in ABSENT:
            with self.subTest(square=square), self.assertRaises(NoSquare):
                numbering(block(6, 6), square)


class KeptApart(unittest.TestCase):
    def test_a_list_that_is_handed_in_stays(self):
        f = [2, 0, 1]
        renumbered(THREE, f)
        leads(THREE, THREE, f)
        self.assertEqual(f, [2, 0, 1])
        for wrong in WRONG:
            kept = list(wrong)
            with self.assertRaises(NoRenumbering):
                renumbered(THREE, wrong)
            leads(THREE, THREE, wrong)
            self.assertEqual(wrong, kept)

    def test_later_changes_of_it_change_nothing(self):
        f = [2, 0, 1]
        told = renumbered(THREE, f)
        f.reverse()
        f.append(7)
        self.assertEqual(told, ((2, 1, 0), (0, 2, 1)))

    def test_numberings_are_new_lists(self):
        one, other = numbering(THREE, 2), numbering(THREE, 2)
        self.assertIs(one.__class__, list)
        one.clear()
        self.assertEqual(other, [1, 2, 0])
        self.assertEqual(numbering(THREE, 2), [1, 2, 0])

    def test_asked_again_the_same_is_told(self):
        for sheet in small_sheets(3):
            for square in range(len(sheet[0])):
                f = numbering(sheet, square)
                self.assertEqual(numbering(sheet, square), f)
                self.assertEqual(renumbered(sheet, f), renumbered(sheet, f))

    def test_the_arguments_have_their_names(self):
        self.assertEqual(renumbered(sheet=ONE, f=[0]), ONE)
        self.assertIs(leads(one=ONE, other=ONE, f=[0]), True)
        self.assertEqual(numbering(sheet=ONE, first=0), [0])
