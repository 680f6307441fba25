"""Sheets and places for the tests: all small sheets, and many greater ones, always the same."""

import itertools
import random
from fractions import Fraction

from squaresheet.parts import Part
from squaresheet.sheets import groups, sheet_of

ONE = ((0,), (0,))
THREE = ((1, 0, 2), (2, 1, 0))
# Any whole numbers that no sheet has as a square.
ABSENT = (-1, -2, -3, -36, -(10 ** 59), 36, 37, 1000, 10 ** 59)


def small_sheets(most):
    for length in range(1, most + 1):
        rows = list(itertools.permutations(range(length)))
        for right, up in itertools.product(rows, rows):
            if len(groups(right, up)) == 1:
                yield sheet_of(right, up)


def block(length, width, shift=0):
    """All corners plain: as many rows as the width tells, the squares above the last one shifted to the right."""
    right = [length * row + (k + 1) % length for row in range(width) for k in range(length)]
    up = [k + length for k in range(length * (width - 1))] + [(k + shift) % length for k in range(length)]
    return sheet_of(right, up)


def slit(sheet, one, other):
    """The upper sides of two squares sewn crosswise: few corners are plain no more."""
    up = list(sheet[1])
    up[one], up[other] = up[other], up[one]
    return (sheet[0], tuple(up))


def random_sheet(source, length):
    while True:
        right, up = list(range(length)), list(range(length))
        source.shuffle(right)
        source.shuffle(up)
        if len(groups(right, up)) == 1:
            return sheet_of(right, up)


def slit_sheet(source):
    length, width = source.choice(((3, 2), (4, 3), (6, 2), (2, 6), (5, 4), (6, 6), (4, 9), (12, 3), (1, 7), (9, 1)))
    sheet = block(length, width, source.randrange(length))
    for cut in range(source.randrange(1, 4)):
        one, other = source.randrange(length * width), source.randrange(length * width)
        if len(groups(*slit(sheet, one, other))) == 1:
            sheet = slit(sheet, one, other)
    return sheet


def great_sheets(many=60):
    """Of up to 36 squares: blocks, slit blocks and shuffled ones."""
    source = random.Random(36)
    told = [block(36, 1), block(1, 36), block(6, 6), block(6, 6, 5), block(9, 4, 3), block(7, 3, 2), block(5, 1, 2)]
    told += [slit_sheet(source) for turn in range(many)]
    told += [random_sheet(source, length) for length in range(5, 37)]
    return told


def shuffled(source, length):
    f = list(range(length))
    source.shuffle(f)
    return f


def part(value):
    fraction = Fraction(value)
    return Part(fraction.numerator, fraction.denominator)


def place_of(square, x, y):
    return (square, part(x), part(y))


def plain_answer(answer):
    """The answer with fractions in the place of its Parts."""
    if answer[0] == "corner":
        kind, square, done = answer
        return (kind, square, Fraction(done.top, done.bottom))
    if answer[0] == "there":
        square, x, y = answer[1]
        return ("there", (square, Fraction(x.top, x.bottom), Fraction(y.top, y.bottom)))
    return answer
