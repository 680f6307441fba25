"""Points 29 and 30, and 4 of them: tables that lead a direction to (1, 0), and the bands along a direction."""

import itertools
import random
import unittest
from fractions import Fraction
from math import gcd

from squaresheet.along import bands_along, to_level
from squaresheet.bands import bands, upright
from squaresheet.errors import NoWay, SheetError
from squaresheet.moving import moved
from squaresheet.tables import led, product, table_of, word_of
from squaresheet.texts import read
from squaresheet.walks import back_after

from samples import ONE, THREE, block, great_sheets, place_of, slit, small_sheets

MANY = list(small_sheets(3)) + great_sheets()
WAYS = [(p, q) for p in range(-5, 6) for q in range(-5, 6) if gcd(p, q) == 1]
FAR_WAYS = [(60, 59), (-60, 59), (59, -60), (-7, -60), (60, 1), (-1, 60), (37, -23), (-41, 58), (1, -60), (-59, -60)]
NO_WAYS = (
    (0, 0), (61, 0), (-61, 0), (0, 61), (0, -61), (1, 61), (61, 1), (-61, 1), (1, -61), (61, 61), (10 ** 59, 1),
    (1, -(10 ** 59)), (62, 60), (2, 0), (0, 2), (-2, 0), (0, -60), (60, 0), (2, 2), (-2, 2), (4, 6), (-9, -6), (60, 60),
    (-60, 45), (35, -21), (59, 59), (-3, 0), (59, -59),
)


def without_shifts(told):
    return sorted((length, width) for length, width, shifts in told)


class ToLevel(unittest.TestCase):
    def test_all_directions(self):
        for p, q in itertools.product(range(-60, 61), range(-60, 61)):
            if gcd(p, q) == 1:
                a, b, c, d = table = to_level(p, q)
                self.assertEqual(table.__class__, tuple)
                self.assertEqual([number.__class__ for number in table], [int] * 4)
                self.assertEqual(a * d - b * c, 1, (p, q))
                self.assertEqual((a * p + b * q, c * p + d * q), (1, 0), (p, q))

    def test_the_level_and_the_upright_ones(self):
        for p, q in ((1, 0), (0, 1), (-1, 0), (0, -1)):
            self.assertEqual(led(to_level(p, q), p, q), (1, 0))

    def test_no_way(self):
        for p, q in NO_WAYS:
            with self.subTest(p=p, q=q), self.assertRaises(SheetError) as caught:
                to_level(p, q)
            self.assertIs(caught.exception.__class__, NoWay)


class Along(unittest.TestCase):
    def test_by_hand(self):
        self.assertEqual(bands_along(ONE, 3, -2), [(1, 1)])
        self.assertEqual(bands_along(THREE, 1, 0), [(1, 1), (2, 1)])
        self.assertEqual(bands_along(THREE, 0, 1), [(1, 1), (2, 1)])
        # From the middle of the left side of 0 slanting up: over the upper side into 2, then 2 again, then 1.
        self.assertEqual(bands_along(THREE, 1, 1), [(3, 1)])
        self.assertEqual(bands_along(read("12034 31240"), 1, 0), [(1, 2), (3, 1)])

    def test_a_row_with_all_corners_plain(self):
        # Straight up one comes to the same square: so (p, q) comes round as p does.
        for p, q in WAYS + FAR_WAYS:
            common = gcd(p, 36)
            self.assertEqual(bands_along(block(36, 1), p, q), [(36 // common, common)], (p, q))
            self.assertEqual(bands_along(block(1, 36), q, p), [(36 // common, common)], (p, q))

    def test_a_block_with_all_corners_plain(self):
        for p, q in WAYS + FAR_WAYS:
            steps = next(k for k in range(1, 25) if k * p % 6 == 0 and k * q % 4 == 0)
            self.assertEqual(bands_along(block(6, 4), p, q), [(steps, 24 // steps)], (p, q))

    def test_level_and_upright(self):
        for sheet in MANY:
            for sense in (1, -1):
                self.assertEqual(bands_along(sheet, sense, 0), without_shifts(bands(sheet)))
                self.assertEqual(bands_along(sheet, 0, sense), without_shifts(upright(sheet)))

    def test_which_table_and_which_word_is_taken_changes_nothing(self):
        words = ["".join(letters) for length in range(8) for letters in itertools.product("st", repeat=length)]
        source = random.Random(29)
        for p, q in WAYS[::3]:
            fit = [word for word in words if led(table_of(word), p, q) == (1, 0)]
            table = to_level(p, q)
            fit += [word_of(product((1, many, 0, 1), table)) for many in (1, -1, 3, -4)]
            for sheet in source.sample(MANY, 8):
                told = bands_along(sheet, p, q)
                for word in fit:
                    self.assertEqual(without_shifts(bands(moved(sheet, word))), told, (sheet, p, q, word))

    def test_either_sense_of_a_direction(self):
        source = random.Random(2)
        for sheet in MANY:
            for p, q in source.sample(WAYS, 3) + source.sample(FAR_WAYS, 1):
                self.assertEqual(bands_along(sheet, p, q), bands_along(sheet, -p, -q))

    def test_sorted_and_covering_the_sheet_just_once(self):
        source = random.Random(3)
        for sheet in MANY:
            for p, q in source.sample(WAYS, 6) + source.sample(FAR_WAYS, 2):
                told = bands_along(sheet, p, q)
                self.assertEqual(told, sorted(told))
                self.assertEqual(sum(length * width for length, width in told), len(sheet[0]))
                self.assertGreaterEqual(min(length for length, width in told), 1)

    def test_bands_of_one_length_and_width_are_each_told(self):
        # From the middles of the left sides, each time up and then to the right: 0, 4, 1, 5, and 2 and 3 by themselves.
        self.assertEqual(bands_along(read("120453 341502"), 1, 1), [(1, 1), (1, 1), (4, 1)])

    def test_no_way(self):
        for p, q in NO_WAYS:
            for sheet in (ONE, THREE, block(6, 6)):
                with self.subTest(p=p, q=q), self.assertRaises(SheetError) as caught:
                    bands_along(sheet, p, q)
                self.assertIs(caught.exception.__class__, NoWay)


class WalksAndBands(unittest.TestCase):
    def test_from_each_square_a_walk_comes_back_behind_the_length_of_its_band(self):
        source = random.Random(30)
        for number, sheet in enumerate(MANY):
            # The far ones are long walks: some are enough.
            far = FAR_WAYS if number % 12 == 0 else WAYS
            for p, q in source.sample(WAYS, 3) + source.sample(far, 1):
                bottom = source.choice((2, 3, 7, 12, 997))
                x, y = Fraction(source.randrange(bottom), bottom), Fraction(source.randrange(bottom), bottom)
                if (q * x - p * y).denominator == 1:
                    continue
                told = [back_after(sheet, place_of(square, x, y), p, q) for square in range(len(sheet[0]))]
                self.assertEqual({kind for kind, *rest in told}, {"back"}, (sheet, p, q, x, y))
                # Each band holds as many of these places as it has squares.
                lengths = [length for length, width in bands_along(sheet, p, q) for square in range(length * width)]
                self.assertEqual(sorted(steps for kind, steps in told), sorted(lengths))

    def test_from_any_place_it_comes_back_behind_the_length_of_a_band_or_meets_a_corner(self):
        source = random.Random(31)
        met = []
        for sheet in MANY:
            for p, q in source.sample(WAYS, 6):
                x, y = Fraction(source.randrange(3), 3), Fraction(source.randrange(3), 3)
                told = back_after(sheet, place_of(source.randrange(len(sheet[0])), x, y), p, q)
                met.append(told[0])
                if told[0] == "back":
                    self.assertIn(told[1], [length for length, width in bands_along(sheet, p, q)])
                else:
                    self.assertEqual((q * x - p * y).denominator, 1)
        self.assertGreater(met.count("corner"), 50)

    def test_the_bands_of_the_moved_sheet_along_the_moved_direction(self):
        source = random.Random(32)
        for sheet in MANY:
            for p, q in source.sample(WAYS, 3):
                word = "".join(source.choice("sst") for letter in range(source.randrange(8)))
                there = led(table_of(word), p, q)
                if max(abs(there[0]), abs(there[1])) <= 60:
                    self.assertEqual(bands_along(moved(sheet, word), *there), bands_along(sheet, p, q))


class KeptApart(unittest.TestCase):
    def test_each_list_that_is_told_is_a_new_one(self):
        one, other = bands_along(THREE, 1, 0), bands_along(THREE, 1, 0)
        one.append((9, 9))
        self.assertEqual(other, [(1, 1), (2, 1)])
        self.assertEqual(bands_along(THREE, 1, 0), other)

    def test_kinds(self):
        told = bands_along(slit(block(4, 2), 0, 2), 1, 2)
        self.assertIs(told.__class__, list)
        for band in told:
            self.assertEqual([band.__class__] + [number.__class__ for number in band], [tuple, int, int])

    def test_asked_again_the_same_is_told(self):
        for p, q in WAYS + FAR_WAYS:
            self.assertEqual(to_level(p, q), to_level(p, q))
            self.assertEqual(bands_along(THREE, p, q), bands_along(THREE, p, q))

    def test_the_arguments_have_their_names(self):
        self.assertEqual(to_level(p=3, q=2), to_level(3, 2))
        self.assertEqual(bands_along(sheet=THREE, p=3, q=2), bands_along(THREE, 3, 2))
