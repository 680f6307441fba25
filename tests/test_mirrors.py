"""Point 35: sheets mirrored across and up."""

import unittest

from squaresheet.corners import counts, turns
from squaresheet.mirrors import mirrored
from squaresheet.moving import turned
from squaresheet.sheets import gone, sheet_of
from squaresheet.texts import read, shown

from samples import ONE, THREE, block, great_sheets, small_sheets

MANY = list(small_sheets(4)) + great_sheets()


def reckoned(sheet, right, up):
    """The sheet with, at the right of each square and above it, the one to which these paths lead."""
    squares = range(len(sheet[0]))
    return tuple(tuple(gone(sheet, square, path) for square in squares) for path in (right, up))


class Mirrored(unittest.TestCase):
    def test_by_hand(self):
        self.assertEqual(shown(mirrored(read("1203 1302"))), "2013 1302")
        self.assertEqual(shown(mirrored(read("1203 1302"), True)), "2013 1302")
        self.assertEqual(shown(mirrored(read("1203 1302"), False)), "1203 2031")
        self.assertEqual(mirrored(ONE), ONE)
        self.assertEqual(mirrored(ONE, False), ONE)
        # Each row of it is its own mirror.
        self.assertEqual((mirrored(THREE), mirrored(THREE, False)), (THREE, THREE))

    def test_across_where_nothing_is_told(self):
        for sheet in MANY:
            self.assertEqual(mirrored(sheet), mirrored(sheet, True))

    def test_across_has_its_left_row_at_the_right(self):
        for sheet in MANY:
            self.assertEqual(mirrored(sheet), reckoned(sheet, "l", "u"))

    def test_up_has_its_lower_row_above(self):
        for sheet in MANY:
            self.assertEqual(mirrored(sheet, False), reckoned(sheet, "r", "d"))

    def test_twice_alike_it_is_itself(self):
        for sheet in MANY:
            for across in (True, False):
                self.assertEqual(mirrored(mirrored(sheet, across), across), sheet)

    def test_both_ways_it_is_the_sheet_turned_twice(self):
        for sheet in MANY:
            self.assertEqual(mirrored(mirrored(sheet, True), False), turned(turned(sheet)))
            self.assertEqual(mirrored(mirrored(sheet, False), True), turned(turned(sheet)))

    def test_turns_and_counts_stay(self):
        for sheet in MANY:
            for across in (True, False):
                self.assertEqual(turns(mirrored(sheet, across)), turns(sheet))
                self.assertEqual(counts(mirrored(sheet, across)), counts(sheet))

    def test_told_are_sheets(self):
        for sheet in MANY:
            for across in (True, False):
                told = mirrored(sheet, across)
                self.assertEqual(sheet_of(*told), told)
                self.assertEqual([told.__class__, told[0].__class__, told[1].__class__], [tuple] * 3)
                self.assertEqual(mirrored(sheet, across), told)

    def test_the_arguments_have_their_names(self):
        sheet = block(4, 3, 1)
        self.assertEqual(mirrored(sheet=sheet, across=False), mirrored(sheet, False))
        self.assertNotEqual(mirrored(sheet=sheet, across=False), mirrored(sheet))
