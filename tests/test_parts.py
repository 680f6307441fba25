"""Point 16: Parts."""

import itertools
import unittest
from fractions import Fraction

from squaresheet.errors import NoNumber
from squaresheet.parts import Part

GREAT = (10 ** 59 + 7, -(10 ** 59 + 9), 10 ** 59, 3 * 10 ** 58, 6 * 10 ** 40)
NUMBERS = tuple(range(-12, 13)) + GREAT
PAIRS = [pair for pair in itertools.product(NUMBERS, NUMBERS) if pair[1] != 0]
FEW = [(top, bottom) for top in (-7, -6, -1, 0, 1, 4, 9) for bottom in (-6, -1, 1, 2, 6)]
FEW += [(10 ** 59, 3), (-(10 ** 59) - 7, 10 ** 58)]


class Made(unittest.TestCase):
    def is_part(self, part, fraction):
        self.assertIs(part.__class__, Part)
        self.assertEqual((part.top, part.bottom), (fraction.numerator, fraction.denominator))
        self.assertEqual((part.top.__class__, part.bottom.__class__), (int, int))

    def test_in_lowest_terms_with_the_bottom_from_1_on(self):
        for top, bottom, told in (
            (6, 4, (3, 2)), (-6, 4, (-3, 2)), (6, -4, (-3, 2)), (-6, -4, (3, 2)), (0, 5, (0, 1)), (0, -5, (0, 1)),
            (0, 1, (0, 1)), (0, -1, (0, 1)), (7, 7, (1, 1)), (7, -7, (-1, 1)), (-3, 1, (-3, 1)), (3, -1, (-3, 1)),
            (10 ** 59, 10 ** 58, (10, 1)), (1, 10 ** 59, (1, 10 ** 59)), (2, -(10 ** 59), (-1, 5 * 10 ** 58)),
        ):
            with self.subTest(top=top, bottom=bottom):
                part = Part(top, bottom)
                self.assertEqual((part.top, part.bottom), told)

    def test_of_any_two_whole_numbers(self):
        for top, bottom in PAIRS:
            self.is_part(Part(top, bottom), Fraction(top, bottom))

    def test_of_one_number(self):
        for top in NUMBERS:
            self.is_part(Part(top), Fraction(top))

    def test_a_second_number_that_is_0(self):
        for top in NUMBERS:
            with self.subTest(top=top), self.assertRaises(NoNumber):
                Part(top, 0)

    def test_the_arguments_have_their_names(self):
        self.assertEqual(Part(top=2, bottom=4).bottom, 2)
        self.assertTrue(Part(1).plus(other=Part(1)).same(other=Part(2)))
        self.assertTrue(Part(1).minus(other=Part(1)).same(other=Part(0)))
        self.assertTrue(Part(1).times(other=Part(1)).under(other=Part(2)))

    def test_reckoned(self):
        for one, other in itertools.product(FEW, FEW):
            mine, others = Part(*one), Part(*other)
            left, right = Fraction(*one), Fraction(*other)
            self.is_part(mine.plus(others), left + right)
            self.is_part(mine.minus(others), left - right)
            self.is_part(mine.times(others), left * right)
            self.assertIs(mine.under(others), left < right)
            self.assertIs(mine.same(others), left == right)

    def test_under_is_less_and_not_as_much(self):
        self.assertIs(Part(1, 3).under(Part(1, 2)), True)
        self.assertIs(Part(1, 2).under(Part(1, 3)), False)
        self.assertIs(Part(1, 2).under(Part(2, 4)), False)
        self.assertIs(Part(-1, 2).under(Part(-1, 3)), True)
        self.assertIs(Part(-1).under(Part(0)), True)

    def test_same(self):
        self.assertIs(Part(1, 2).same(Part(-2, -4)), True)
        self.assertIs(Part(1, 2).same(Part(1, 3)), False)
        self.assertIs(Part(1, 2).same(Part(2, 2)), False)
        self.assertIs(Part(1, 2).same(Part(-1, 2)), False)

    def test_whole_and_rest(self):
        for part, whole, rest in (
            (Part(7, 2), 3, (1, 2)), (Part(-7, 2), -4, (1, 2)), (Part(-1, 3), -1, (2, 3)), (Part(0), 0, (0, 1)),
            (Part(3), 3, (0, 1)), (Part(-3), -3, (0, 1)), (Part(1, 3), 0, (1, 3)), (Part(-6, 4), -2, (1, 2)),
        ):
            with self.subTest(part=part.shown()):
                self.assertEqual(part.whole(), whole)
                self.assertEqual((part.rest().top, part.rest().bottom), rest)
        for top, bottom in PAIRS:
            part, fraction = Part(top, bottom), Fraction(top, bottom)
            self.assertEqual(part.whole(), fraction // 1)
            self.assertIs(part.whole().__class__, int)
            self.is_part(part.rest(), fraction - fraction // 1)

    def test_shown(self):
        for part, text in (
            (Part(3), "3"), (Part(-1, 2), "-1/2"), (Part(1, -2), "-1/2"), (Part(0), "0"), (Part(0, -7), "0"),
            (Part(-4, 2), "-2"), (Part(22, 7), "22/7"), (Part(6, 4), "3/2"), (Part(-10, 15), "-2/3"),
            (Part(1, 10 ** 59), "1/1" + "0" * 59),
        ):
            self.assertEqual(part.shown(), text)
        for top, bottom in PAIRS:
            self.assertEqual(Part(top, bottom).shown(), str(Fraction(top, bottom)))

    def test_a_part_is_never_changed(self):
        one, other = Part(-7, 2), Part(3, 4)
        for again in range(2):
            self.is_part(one.plus(other), Fraction(-11, 4))
            self.is_part(one.minus(other), Fraction(-17, 4))
            self.is_part(one.times(other), Fraction(-21, 8))
            self.assertEqual((one.under(other), one.same(other), one.whole()), (True, False, -4))
            self.assertEqual((one.rest().shown(), one.shown()), ("1/2", "-7/2"))
            self.is_part(one, Fraction(-7, 2))
            self.is_part(other, Fraction(3, 4))
        self.is_part(one.plus(one), Fraction(-7))
        self.is_part(one.minus(one), Fraction(0))
        self.is_part(one, Fraction(-7, 2))
