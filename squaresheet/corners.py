"""Corners: the rounds of squares about them, how often one turns round each, the counts of a sheet."""

from squaresheet.sheets import cycle_from, cycles, gone, need_square, size

# First left, then down, then right, then up: once round the left lower corner, against the clock.
ONE_TURN = "ldru"


def round_of(sheet, square):
    need_square(sheet, square)
    return cycle_from(turn_row(sheet), square)


def is_plain(sheet, square):
    return len(round_of(sheet, square)) == 1


def corners(sheet):
    return cycles(turn_row(sheet))


def turns(sheet):
    return sorted([len(corner) for corner in corners(sheet)])


def counts(sheet):
    squares = size(sheet)
    sides = 2 * squares
    points = len(corners(sheet))
    return (points, sides, squares, (2 - points + sides - squares) // 2)


def turn_row(sheet):
    return [gone(sheet, square, ONE_TURN) for square in range(size(sheet))]


# For each square whose left lower corner is not plain, the least square with the same one.
def rough_squares(sheet):
    least = {}
    for corner in corners(sheet):
        if len(corner) > 1:
            for square in corner:
                least[square] = corner[0]
    return least
