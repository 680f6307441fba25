"""Points 17, 18 and 19, and 4 of them: places, directions, walks, when a walk comes back."""

import itertools
import random
import unittest
from fractions import Fraction
from math import ceil, floor, gcd

from squaresheet.corners import is_plain, round_of
from squaresheet.errors import NoPlace, NoWay, SheetError
from squaresheet.parts import Part
from squaresheet.sheets import gone
from squaresheet.walks import back_after, walk

from samples import ABSENT, ONE, THREE, block, great_sheets, place_of, plain_answer, slit, small_sheets

HALF = Part(1, 2)
# Rows 0 1 2 3 and 4 5 6 7; the left lower corners of 4, 5, 6, 7 are not plain, those of 4 and 6, of 5 and 7 are one.
SLIT = slit(block(4, 2), 0, 2)
WAYS = [(p, q) for p in range(-3, 4) for q in range(-3, 4) if (p, q) != (0, 0)]
FAR_WAYS = [(60, 59), (-60, 60), (59, -60), (-7, -60), (0, 60), (-60, 0), (60, 1), (-1, 60), (37, -23), (-41, 58)]


def walked(sheet, square, x, y, p, q, steps):
    return plain_answer(walk(sheet, place_of(square, x, y), p, q, steps))


def came_back(sheet, square, x, y, p, q):
    return plain_answer(back_after(sheet, place_of(square, x, y), p, q))


def meeting_times(start, speed, steps):
    """When a whole number is met by what begins at start, in the time from 0 to steps."""
    if speed == 0:
        return []
    end = start + speed * steps
    wholes = range(ceil(min(start, end)), floor(max(start, end)) + 1)
    return [(whole - start) / speed for whole in wholes]


def crossed(sheet, square, cell, other):
    """From a square that lies over one cell of the plane to the one over a cell near it."""
    across = ("r" if other[0] > cell[0] else "l") * abs(other[0] - cell[0])
    upwards = ("u" if other[1] > cell[1] else "d") * abs(other[1] - cell[1])
    return gone(sheet, square, across + upwards)


def reckoned(sheet, square, x, y, p, q, steps):
    """The walk another way: on the plane, with a cell of the plane between each two times at which sides are met."""
    x, y = Fraction(x), Fraction(y)
    met = meeting_times(x, p, steps) + meeting_times(y, q, steps)
    times = sorted(set(met + [Fraction(0), Fraction(steps)]))
    cell = (0, 0)
    for number, time in enumerate(times):
        at = (x + p * time, y + q * time)
        end = (floor(at[0]), floor(at[1]))
        if at == end:
            there = crossed(sheet, square, cell, end)
            if not is_plain(sheet, there):
                return ("corner", min(round_of(sheet, there)), time)
        if number + 1 < len(times):
            middle = (time + times[number + 1]) / 2
            next_cell = (floor(x + p * middle), floor(y + q * middle))
            square = crossed(sheet, square, cell, next_cell)
            cell = next_cell
    return ("there", (crossed(sheet, square, cell, end), at[0] - end[0], at[1] - end[1]))


class Places(unittest.TestCase):
    def refuse(self, refusal, sheet, place, p, q):
        for ask in (walk, back_after):
            with self.subTest(ask=ask, place=place, p=p, q=q), self.assertRaises(SheetError) as caught:
                ask(sheet, place, p, q)
            self.assertIs(caught.exception.__class__, refusal)

    def test_squares_that_the_sheet_has_not_got(self):
        for square in ABSENT + (3, 4):
            self.refuse(NoPlace, THREE, (square, HALF, HALF), 1, 0)
        for square in ABSENT:
            self.refuse(NoPlace, block(6, 6), (square, HALF, HALF), 1, 0)

    def test_x_and_y_out_of_their_range(self):
        for wrong in (Part(1), Part(2), Part(-1), Part(-1, 2), Part(3, 2), Part(-1, 10 ** 12 - 1), Part(-5, 2),
                      Part(10 ** 11, 10 ** 11 - 1), Part(999999999999), Part(-999999999999), Part(101, 100)):
            self.refuse(NoPlace, THREE, (0, wrong, HALF), 1, 0)
            self.refuse(NoPlace, THREE, (0, HALF, wrong), 1, 0)
            self.refuse(NoPlace, THREE, (0, wrong, wrong), 1, 0)

    def test_x_and_y_just_within(self):
        for good in (Part(0), Part(1, 10 ** 12 - 1), Part(10 ** 12 - 2, 10 ** 12 - 1), HALF):
            told = plain_answer(walk(THREE, (2, good, HALF), 1, 0))
            self.assertEqual(told, ("there", (2, Fraction(good.top, good.bottom), Fraction(1, 2))))

    def test_directions_out_of_their_range(self):
        for p, q in ((0, 0), (61, 0), (0, 61), (-61, 0), (0, -61), (61, 60), (60, 61), (-61, -61), (1, 10 ** 59),
                     (10 ** 59, 1), (-(10 ** 59), 0), (0, 1000), (-1000, 1), (61, -61)):
            self.refuse(NoWay, THREE, (0, HALF, HALF), p, q)
            with self.assertRaises(NoWay):
                walk(THREE, (0, HALF, HALF), p, q, 0)

    def test_directions_just_within(self):
        for p, q in ((60, 0), (-60, 60), (0, -60), (-60, -60), (60, 60)):
            told = walked(block(6, 6), 0, Fraction(1, 2), Fraction(1, 3), p, q, 1)
            self.assertEqual(told, ("there", (0, Fraction(1, 2), Fraction(1, 3))))

    def test_no_place_comes_ahead_of_no_way(self):
        for place in ((3, HALF, HALF), (-1, HALF, HALF), (0, Part(1), HALF), (0, HALF, Part(-1, 2))):
            for p, q in ((0, 0), (61, 0), (1, -61), (2, 2), (10 ** 59, 0)):
                self.refuse(NoPlace, THREE, place, p, q)

    def test_no_way_comes_ahead_of_a_corner(self):
        self.refuse(NoWay, THREE, (0, Part(0), Part(0)), 0, 0)
        with self.assertRaises(NoWay):
            back_after(THREE, (0, Part(0), Part(0)), 2, 2)


class Walks(unittest.TestCase):
    def test_level_and_upright_over_sides(self):
        third, half = Fraction(1, 3), Fraction(1, 2)
        for p, q, square in ((1, 0, 1), (-1, 0, 3), (0, 1, 6), (0, -1, 4), (2, 0, 2), (5, 0, 1), (-3, 0, 1)):
            with self.subTest(p=p, q=q):
                self.assertEqual(walked(SLIT, 0, third, half, p, q, 1), ("there", (square, third, half)))

    def test_parts_of_a_step(self):
        sheet = block(3, 3)
        # Along (1, 2) from the middle of 0: over the upper side into 3, over a plain corner into 7.
        self.assertEqual(
            walked(sheet, 0, Fraction(1, 2), Fraction(1, 2), 1, 2, 1), ("there", (7, Fraction(1, 2), Fraction(1, 2)))
        )
        # Along (2, 1) from a quarter: over the right side into 1, then over its upper side into 4, then into 5.
        self.assertEqual(
            walked(sheet, 0, Fraction(1, 4), Fraction(1, 4), 2, 1, 1), ("there", (5, Fraction(1, 4), Fraction(1, 4)))
        )

    def test_slanting_the_order_of_the_sides_matters(self):
        # On `102 210` first right and then up leads from 0 to 1, first up and then right to 2.
        self.assertEqual(
            walked(THREE, 0, Fraction(1, 2), Fraction(1, 3), 1, 1, 1), ("there", (1, Fraction(1, 2), Fraction(1, 3)))
        )
        self.assertEqual(
            walked(THREE, 0, Fraction(1, 3), Fraction(1, 2), 1, 1, 1), ("there", (2, Fraction(1, 3), Fraction(1, 2)))
        )

    def test_over_plain_corners(self):
        for p, q, square in ((1, 1, 5), (-1, -1, 11), (1, -1, 9), (-1, 1, 7), (1, 0, 1), (-1, 0, 3), (0, 1, 4),
                             (0, -1, 8)):
            with self.subTest(p=p, q=q):
                self.assertEqual(walked(block(4, 3), 0, 0, 0, p, q, 1), ("there", (square, 0, 0)))
                half = Fraction(1, 2)
                if p and q:
                    self.assertEqual(walked(block(4, 3), 0, half, half, p, q, 1), ("there", (square, half, half)))

    def test_no_steps(self):
        for x, y in ((0, Fraction(1, 2)), (Fraction(1, 2), 0), (Fraction(1, 7), Fraction(5, 9))):
            for p, q in WAYS:
                self.assertEqual(walked(SLIT, 4, x, y, p, q, 0), ("there", (4, x, y)))
        for p, q in WAYS:
            self.assertEqual(walked(SLIT, 1, 0, 0, p, q, 0), ("there", (1, 0, 0)))

    def test_steps_left_out_are_one(self):
        for p, q in WAYS:
            place = place_of(1, Fraction(2, 5), Fraction(1, 7))
            self.assertEqual(plain_answer(walk(SLIT, place, p, q)), plain_answer(walk(SLIT, place, p, q, 1)))

    def test_at_a_corner_at_the_beginning(self):
        for p, q in WAYS:
            for steps in (0, 1, 60):
                self.assertEqual(walked(SLIT, 6, 0, 0, p, q, steps), ("corner", 4, 0))
                self.assertEqual(walked(SLIT, 5, 0, 0, p, q, steps), ("corner", 5, 0))
                self.assertEqual(walked(THREE, 2, 0, 0, p, q, steps), ("corner", 0, 0))

    def test_at_a_corner_between_two_whole_steps(self):
        self.assertEqual(walked(THREE, 1, Fraction(1, 2), 0, 1, 0, 5), ("corner", 0, Fraction(1, 2)))
        self.assertEqual(walked(THREE, 1, Fraction(1, 3), 0, 1, 0, 5), ("corner", 0, Fraction(2, 3)))
        self.assertEqual(walked(THREE, 1, Fraction(1, 3), 0, -1, 0, 5), ("corner", 0, Fraction(1, 3)))
        self.assertEqual(walked(SLIT, 0, Fraction(1, 2), Fraction(1, 2), 1, 1, 3), ("corner", 5, Fraction(1, 2)))
        self.assertEqual(walked(SLIT, 0, Fraction(1, 2), Fraction(1, 2), -1, 1, 3), ("corner", 4, Fraction(1, 2)))
        self.assertEqual(walked(SLIT, 4, Fraction(1, 4), Fraction(1, 4), -1, -1, 3), ("corner", 4, Fraction(1, 4)))
        self.assertEqual(walked(SLIT, 7, Fraction(1, 2), Fraction(3, 4), 2, -3, 3), ("corner", 4, Fraction(1, 4)))
        self.assertEqual(walked(SLIT, 0, 0, Fraction(1, 2), 2, 1, 3), ("corner", 5, Fraction(1, 2)))

    def test_past_the_corners(self):
        # From 0 over 1 into 5, over 6 into 2, over 3 into 7, always over the middles of the sides.
        self.assertEqual(walked(SLIT, 0, Fraction(1, 2), 0, 1, 1, 3), ("there", (7, Fraction(1, 2), 0)))
        # From 0 and 1 into 5, 6, 7, then from 4 and 5 into 1, 2, 3, then as at first.
        self.assertEqual(walked(SLIT, 0, 0, Fraction(2, 3), 4, 1, 3), ("there", (4, 0, Fraction(2, 3))))
        # From 0 and 1 into 5, then from 6 and 7 into 3, then as at first.
        self.assertEqual(walked(SLIT, 0, 0, Fraction(1, 4), 2, 1, 3), ("there", (6, 0, Fraction(1, 4))))

    def test_at_a_corner_at_the_end(self):
        self.assertEqual(walked(SLIT, 0, 0, 0, 1, 1, 1), ("corner", 5, 1))
        self.assertEqual(walked(SLIT, 0, 0, 0, 0, 1, 1), ("corner", 4, 1))
        self.assertEqual(walked(SLIT, 2, 0, 0, 0, 1, 1), ("corner", 4, 1))
        self.assertEqual(walked(SLIT, 0, 0, 0, 0, -1, 1), ("corner", 4, 1))
        self.assertEqual(walked(block(4, 2), 0, 0, 0, 0, 1, 1), ("there", (4, 0, 0)))

    def test_places_on_sides_set_out_over_them(self):
        half = Fraction(1, 2)
        self.assertEqual(walked(SLIT, 4, 0, half, -1, 0, 1), ("there", (7, 0, half)))
        self.assertEqual(walked(SLIT, 4, half, 0, 0, -1, 1), ("there", (2, half, 0)))
        self.assertEqual(walked(SLIT, 6, half, 0, 0, -1, 1), ("there", (0, half, 0)))
        self.assertEqual(walked(SLIT, 0, half, 0, 0, 1, 1), ("there", (6, half, 0)))

    def test_near_corners_with_great_bottoms(self):
        great = 10 ** 12 - 1
        near, far = Fraction(1, great), Fraction(great - 1, great)
        # Passing the corner on its one side and on its other one.
        self.assertEqual(walked(THREE, 0, far, near, 1, 1, 1), ("there", (1, far, near)))
        self.assertEqual(walked(THREE, 0, near, far, 1, 1, 1), ("there", (2, near, far)))
        self.assertEqual(walked(THREE, 0, far, far, 1, 1, 1), ("corner", 0, near))
        self.assertEqual(walked(THREE, 0, near, near, -1, -1, 1), ("corner", 0, near))
        self.assertEqual(walked(THREE, 0, near, far, -1, 1, 60), ("corner", 0, near))
        self.assertEqual(walked(THREE, 0, far, far, -1, -1, 1), ("corner", 0, far))
        other = Fraction(10 ** 12 - 12, 10 ** 12 - 11)
        for p, q in FAR_WAYS:
            told = walked(SLIT, 3, far, other, p, q, 60)
            self.assertEqual(told, reckoned(SLIT, 3, far, other, p, q, 60))

    def test_as_reckoned_another_way_on_small_sheets(self):
        values = (0, Fraction(1, 3), Fraction(1, 2))
        for sheet in small_sheets(3):
            for (p, q), x, y in itertools.product(WAYS, values, values):
                for square in range(len(sheet[0])):
                    told = walked(sheet, square, x, y, p, q, 2)
                    self.assertEqual(told, reckoned(sheet, square, x, y, p, q, 2), (sheet, square, x, y, p, q))

    def test_as_reckoned_another_way_on_great_sheets(self):
        source = random.Random(18)
        for sheet in great_sheets():
            for p, q in source.sample(WAYS, 6) + source.sample(FAR_WAYS, 1):
                square, bottom = source.randrange(len(sheet[0])), source.choice((1, 2, 3, 4, 12, 997, 10 ** 12 - 11))
                x, y = Fraction(source.randrange(bottom), bottom), Fraction(source.randrange(12), 12)
                steps = source.choice((0, 1, 2, 7))
                told = walked(sheet, square, x, y, p, q, steps)
                self.assertEqual(told, reckoned(sheet, square, x, y, p, q, steps), (sheet, square, x, y, p, q, steps))

    def test_in_parts_and_in_one(self):
        source = random.Random(4)
        for sheet in great_sheets(20):
            for p, q in source.sample(WAYS, 4):
                square = source.randrange(len(sheet[0]))
                x, y = Fraction(source.randrange(6), 6), Fraction(source.randrange(5), 5)
                whole, here, done = walked(sheet, square, x, y, p, q, 9), ("there", (square, x, y)), 0
                for steps in (2, 0, 3, 4):
                    if here[0] == "there":
                        here = walked(sheet, *here[1], p, q, steps)
                        done += steps if here[0] == "there" else here[2]
                self.assertEqual(here[:2], whole[:2])
                if whole[0] == "corner":
                    self.assertEqual(done, whole[2])

    def test_forth_and_back(self):
        for sheet in great_sheets(20):
            for p, q in WAYS:
                place = (0, Fraction(1, 5), Fraction(3, 7))
                there = walked(sheet, *place, p, q, 3)
                if there[0] == "there":
                    self.assertEqual(walked(sheet, *there[1], -p, -q, 3), ("there", place))

    def test_sixty_steps_of_sixty(self):
        half, third = Fraction(1, 2), Fraction(1, 3)
        self.assertEqual(walked(block(6, 6), 7, half, third, 60, -60, 60), ("there", (7, half, third)))
        self.assertEqual(walked(block(7, 5, 1), 0, half, third, 60, 59, 60)[1][0], self.block_square(7, 5, 1, 60))

    def block_square(self, length, width, shift, steps):
        across, upwards = 60 * steps, 59 * steps
        return (across + shift * (upwards // width)) % length + length * (upwards % width)


class ComesBack(unittest.TestCase):
    def test_one_square(self):
        for p, q in WAYS + FAR_WAYS:
            if gcd(p, q) == 1:
                self.assertEqual(came_back(ONE, 0, 0, 0, p, q), ("back", 1))
                self.assertEqual(came_back(ONE, 0, Fraction(1, 3), Fraction(6, 7), p, q), ("back", 1))

    def test_by_hand(self):
        half = Fraction(1, 2)
        self.assertEqual(came_back(THREE, 0, half, half, 1, 0), ("back", 2))
        self.assertEqual(came_back(THREE, 2, half, half, 1, 0), ("back", 1))
        self.assertEqual(came_back(THREE, 0, half, half, 0, 1), ("back", 2))
        self.assertEqual(came_back(THREE, 1, half, half, 0, -1), ("back", 1))
        self.assertEqual(came_back(THREE, 0, half, half, 1, 1), ("corner", 0, half))
        self.assertEqual(came_back(THREE, 0, half, Fraction(1, 3), 1, 1), ("back", 3))
        self.assertEqual(came_back(block(36, 1), 5, 0, 0, 1, 0), ("back", 36))
        self.assertEqual(came_back(block(36, 1), 5, 0, half, -1, 0), ("back", 36))
        self.assertEqual(came_back(block(6, 6, 1), 0, 0, 0, 0, 1), ("back", 36))

    def test_a_number_above_1_divides_both(self):
        for p, q in ((2, 0), (0, 2), (-2, 0), (0, -60), (60, 0), (2, 2), (-2, 2), (4, 6), (-9, -6), (60, 60),
                     (-60, 45), (35, -21), (59, 59), (-3, 0)):
            for sheet, square in ((THREE, 0), (block(6, 6), 35)):
                with self.subTest(p=p, q=q), self.assertRaises(NoWay):
                    back_after(sheet, place_of(square, Fraction(1, 2), Fraction(1, 3)), p, q)

    def test_a_corner_at_the_place_itself(self):
        for p, q in WAYS:
            if gcd(p, q) == 1:
                self.assertEqual(came_back(THREE, 2, 0, 0, p, q), ("corner", 0, 0))
                self.assertEqual(came_back(SLIT, 6, 0, 0, p, q), ("corner", 4, 0))

    def test_a_corner_behind_more_than_a_step(self):
        sheet = slit(block(6, 2), 0, 3)
        self.assertEqual(came_back(sheet, 8, Fraction(1, 4), 0, 1, 0), ("corner", 6, Fraction(3, 4)))
        self.assertEqual(came_back(sheet, 11, Fraction(1, 4), 0, -1, 0), ("corner", 7, Fraction(5, 4)))
        self.assertEqual(came_back(sheet, 7, Fraction(1, 4), 0, 1, 0), ("corner", 6, Fraction(7, 4)))

    def test_as_reckoned_another_way(self):
        source = random.Random(19)
        ways = [(p, q) for p, q in WAYS + FAR_WAYS[3:8] if gcd(p, q) == 1]
        for sheet in list(small_sheets(3)) + great_sheets():
            for p, q in source.sample(ways, 3):
                square = source.randrange(len(sheet[0]))
                x, y = Fraction(source.randrange(4), 4), Fraction(source.randrange(3), 3)
                told = came_back(sheet, square, x, y, p, q)
                if told[0] == "back":
                    self.assertLessEqual(told[1], len(sheet[0]))
                    self.assertEqual(reckoned(sheet, square, x, y, p, q, told[1]), ("there", (square, x, y)))
                    for steps in range(1, told[1]):
                        self.assertNotEqual(walked(sheet, square, x, y, p, q, steps), ("there", (square, x, y)))
                else:
                    self.assertEqual(told, reckoned(sheet, square, x, y, p, q, len(sheet[0])))
                    for steps in range(1, ceil(told[2])):
                        self.assertNotEqual(walked(sheet, square, x, y, p, q, steps), ("there", (square, x, y)))


class KeptApart(unittest.TestCase):
    def test_what_is_handed_in_stays(self):
        x, y = Part(1, 3), Part(2, 5)
        for p, q in WAYS:
            walk(SLIT, (0, x, y), p, q, 5)
            self.assertEqual((x.top, x.bottom, y.top, y.bottom), (1, 3, 2, 5))

    def test_kinds(self):
        told = walk(SLIT, place_of(0, Fraction(1, 3), Fraction(2, 5)), 1, 1)
        self.assertEqual((told.__class__, told[1].__class__, len(told[1])), (tuple, tuple, 3))
        self.assertEqual([thing.__class__ for thing in told[1]], [int, Part, Part])
        for told in (walk(THREE, place_of(0, 0, 0), 1, 1), back_after(THREE, place_of(0, 0, 0), 1, 1)):
            self.assertEqual([thing.__class__ for thing in told], [str, int, Part])

    def test_asked_again_the_same_is_told(self):
        for p, q in WAYS:
            for square in range(8):
                asked = (SLIT, square, Fraction(1, 2), Fraction(1, 2), p, q)
                self.assertEqual(walked(*asked, 4), walked(*asked, 4))
                if gcd(p, q) == 1:
                    self.assertEqual(came_back(*asked), came_back(*asked))

    def test_the_arguments_have_their_names(self):
        place = (0, HALF, HALF)
        self.assertEqual(walk(sheet=ONE, place=place, p=1, q=0, steps=2)[0], "there")
        self.assertEqual(back_after(sheet=ONE, place=place, p=1, q=0), ("back", 1))
