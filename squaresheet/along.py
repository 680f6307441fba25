"""Bands in any direction: tables that lead a direction to (1, 0), and the bands along it."""

from squaresheet.bands import bands
from squaresheet.moving import moved
from squaresheet.tables import word_of
from squaresheet.walks import need_straight_way


def to_level(p, q):
    need_straight_way(p, q)
    weights = weights_to_one(p, q)
    return (weights[0], weights[1], -q, p)


def bands_along(sheet, p, q):
    level = moved(sheet, word_of(to_level(p, q)))
    return sorted([(band[0], band[1]) for band in bands(level)])


# Two numbers, none greater than p and q are, with first * p + second * q = 1: so they stand in a table that has a word.
# Each of the triples is such a sum and its two numbers; the sums shrink until the one is 0 and the other 1 or -1.
def weights_to_one(p, q):
    one = (p, 1, 0)
    other = (q, 0, 1)
    while other[0] != 0:
        many = one[0] // other[0]
        less = (one[0] - many * other[0], one[1] - many * other[1], one[2] - many * other[2])
        one = other
        other = less
    return (one[0] * one[1], one[0] * one[2])
