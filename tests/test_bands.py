"""Points 20 to 23, and 4 of them: rows, borders, level and upright bands."""

import unittest

from squaresheet.bands import bands, borders, rows, upright
from squaresheet.corners import is_plain
from squaresheet.parts import Part
from squaresheet.sheets import gone
from squaresheet.texts import read
from squaresheet.walks import back_after

from samples import ONE, THREE, block, great_sheets, slit, small_sheets

MANY = list(small_sheets(4)) + great_sheets()


def row_of(sheet, square):
    told = [square]
    while sheet[0][told[-1]] != square:
        told.append(sheet[0][told[-1]])
    return frozenset(told)


def joined_rows(sheet):
    """The rows thrown together over each edge on which no border's left lower corner is."""
    edge = borders(sheet)
    groups = {row_of(sheet, square): {row_of(sheet, square)} for square in range(len(sheet[0]))}
    for row in list(groups):
        above = {sheet[1][square] for square in row}
        if not above & set(edge):
            upper = row_of(sheet, min(above))
            both = groups[row] | groups[upper]
            for member in both:
                groups[member] = both
    return [list(group) for group in {frozenset(group) for group in groups.values()}]


def reckoned_bands(sheet):
    """The bands another way: widths from rows thrown together, shifts from paths, as the point tells them."""
    edge = borders(sheet)
    told = []
    for group in joined_rows(sheet):
        lowest = [square for row in group for square in row if set(row) & set(edge)]
        length, width = len(group[0]), len(group)
        shifts = [
            t for t in range(length)
            if any(gone(sheet, b, "u" * (width - 1) + "r" * t + "u") in edge for b in lowest if b in edge)
        ]
        told.append((length, width, tuple(shifts)))
    return sorted(told)


class Rows(unittest.TestCase):
    def test_by_hand(self):
        self.assertEqual(rows(THREE), [[0, 1], [2]])
        self.assertEqual(rows(ONE), [[0]])
        self.assertEqual(rows(block(3, 2)), [[0, 1, 2], [3, 4, 5]])
        self.assertEqual(rows(read("3021 1032")), [[0, 3, 1], [2]])
        self.assertEqual(rows(block(36, 1)), [list(range(36))])
        self.assertEqual(rows(block(1, 36)), [[square] for square in range(36)])

    def test_each_goes_on_to_the_right_from_its_least_square(self):
        for sheet in MANY:
            told = rows(sheet)
            self.assertEqual(told, sorted(told))
            for row in told:
                self.assertEqual(row[0], min(row))
                self.assertEqual([sheet[0][square] for square in row], row[1:] + row[:1])
            self.assertEqual(sorted(square for row in told for square in row), list(range(len(sheet[0]))))


class Borders(unittest.TestCase):
    def test_by_hand(self):
        self.assertEqual(borders(THREE), [0, 1, 2])
        self.assertEqual(borders(slit(block(4, 2), 0, 2)), [4, 5, 6, 7])
        self.assertEqual(borders(slit(block(6, 2), 0, 3)), [6, 7, 9, 10])

    def test_square_0_alone_where_all_corners_are_plain(self):
        for sheet in (ONE, block(6, 6), block(36, 1), block(1, 36), block(5, 3, 2), block(2, 2, 1)):
            self.assertEqual(borders(sheet), [0])

    def test_rising_and_not_plain(self):
        for sheet in MANY:
            told = [square for square in range(len(sheet[0])) if not is_plain(sheet, square)]
            self.assertEqual(borders(sheet), told or [0])


class Bands(unittest.TestCase):
    def test_the_sheet_of_the_document(self):
        self.assertEqual(bands(THREE), [(1, 1, (0,)), (2, 1, (0, 1))])

    def test_all_corners_plain(self):
        self.assertEqual(bands(ONE), [(1, 1, (0,))])
        self.assertEqual(bands(block(6, 6)), [(6, 6, (0,))])
        self.assertEqual(bands(block(1, 36)), [(1, 36, (0,))])
        self.assertEqual(bands(block(36, 1)), [(36, 1, (0,))])
        # Straight up from 0 one comes round to square 2 above; four more to the right to 0 again.
        self.assertEqual(bands(block(6, 3, 2)), [(6, 3, (4,))])
        self.assertEqual(bands(block(5, 1, 1)), [(5, 1, (4,))])

    def test_bands_of_several_rows_with_several_shifts(self):
        # The borders are 4, 5, 6, 7: a band begins with their row and has the other one above it.
        self.assertEqual(bands(slit(block(4, 2), 0, 2)), [(4, 2, (0, 1, 2, 3))])
        # The borders are 6, 7, 9, 10, likewise.
        self.assertEqual(bands(slit(block(6, 2), 0, 3)), [(6, 2, (0, 1, 2, 3, 4, 5))])
        # The borders are in the last row: the band has this one lowest, then the first and the second one.
        sheet = slit(block(6, 3), 6, 7)
        self.assertEqual(borders(sheet), [12, 13, 14])
        self.assertEqual(bands(sheet), [(6, 3, (0, 1, 2, 4, 5))])

    def test_several_bands_sorted(self):
        # A column of three squares 0, 3, 4 with the row 0 1 2: the row is one band, two more squares lie above 0.
        sheet = read("12034 31240")
        self.assertEqual(rows(sheet), [[0, 1, 2], [3], [4]])
        self.assertEqual(bands(sheet), [(1, 2, (0,)), (3, 1, (0, 1, 2))])
        self.assertEqual(upright(sheet), [(1, 2, (0,)), (3, 1, (0, 1, 2))])

    def test_as_reckoned_another_way(self):
        for sheet in MANY:
            self.assertEqual(bands(sheet), reckoned_bands(sheet))

    def test_lengths_times_widths_come_to_the_number_of_squares(self):
        for sheet in MANY:
            for told in (bands(sheet), upright(sheet)):
                self.assertEqual(sum(length * width for length, width, shifts in told), len(sheet[0]))

    def test_shifts_rise_and_there_is_one(self):
        for sheet in MANY:
            for told in (bands(sheet), upright(sheet)):
                self.assertEqual(told, sorted(told))
                for length, width, shifts in told:
                    self.assertEqual(list(shifts), sorted(set(shifts)))
                    self.assertTrue(shifts)
                    self.assertTrue(0 <= shifts[0] and shifts[-1] < length)

    def test_a_walk_comes_back_behind_the_length_of_its_band(self):
        middle = Part(1, 2)
        for sheet in MANY:
            for told, p, q in ((bands(sheet), 1, 0), (upright(sheet), 0, 1)):
                lengths = [length for length, width, shifts in told for row in range(length * width)]
                places = [(square, middle, middle) for square in range(len(sheet[0]))]
                walks = [back_after(sheet, place, p, q) for place in places]
                self.assertEqual({kind for kind, steps in walks}, {"back"})
                self.assertEqual(sorted(steps for kind, steps in walks), sorted(lengths))


class Upright(unittest.TestCase):
    def test_by_hand(self):
        self.assertEqual(upright(THREE), [(1, 1, (0,)), (2, 1, (0, 1))])
        self.assertEqual(upright(ONE), [(1, 1, (0,))])
        self.assertEqual(upright(block(1, 36)), [(36, 1, (0,))])
        self.assertEqual(upright(block(4, 3)), [(3, 4, (0,))])
        # One column: from 0 three times up, each time by three, and once to the left one comes to 0 again.
        self.assertEqual(upright(block(4, 1, 3)), [(4, 1, (3,))])
        self.assertEqual(upright(block(4, 1, 1)), [(4, 1, (1,))])

    def test_the_bands_of_the_sheet_that_the_point_names(self):
        for right, up in MANY:
            left = tuple(right.index(square) for square in range(len(right)))
            self.assertEqual(upright((right, up)), reckoned_bands((up, left)))


class KeptApart(unittest.TestCase):
    def test_each_list_that_is_told_is_a_new_one(self):
        for ask in (rows, borders, bands, upright):
            one, other = ask(THREE), ask(THREE)
            one.clear()
            self.assertTrue(other)
            self.assertEqual(ask(THREE), other)
        one, other = rows(THREE), rows(THREE)
        for row in one:
            row.append(99)
        self.assertEqual(other, [[0, 1], [2]])
        self.assertEqual(rows(THREE), other)
        one = borders(block(2, 2))
        one.append(99)
        self.assertEqual(borders(block(2, 2)), [0])

    def test_kinds(self):
        for told in (bands(THREE), upright(THREE)):
            self.assertEqual([band.__class__ for band in told], [tuple, tuple])
            self.assertEqual([band[2].__class__ for band in told], [tuple, tuple])

    def test_asked_again_the_same_is_told(self):
        for sheet in MANY:
            for ask in (rows, borders, bands, upright):
                self.assertEqual(ask(sheet), ask(sheet))

    def test_the_arguments_have_their_names(self):
        for ask in (rows, borders, bands, upright):
            self.assertEqual(ask(sheet=THREE), ask(THREE))
