"""Corners: the rounds of squares about them, how often one turns round each, the counts of a sheet."""

from squaresheet.sheets import back_row, cycle_from, cycles, need_square, size


def round_of(sheet, square):
    need_square(sheet, square)
    return cycle_from(turn_row(sheet), square)


def is_plain(sheet, square):
    return len(round_of(sheet, square)) == 1


def corners(sheet):
    return cycles(turn_row(sheet))


def turns(sheet):
    return sorted([len(corner) for corner in corners(sheet)])


def counts(sheet):
    squares = size(sheet)
    sides = 2 * squares
    points = len(corners(sheet))
    return (points, sides, squares, (2 - points + sides - squares) // 2)


# First left, then down, then right, then up: once round the left lower corner, against the clock.
def turn_row(sheet):
    left = back_row(sheet[0])
    down = back_row(sheet[1])
    return [sheet[1][sheet[0][down[square]]] for square in left]


# For each square whose left lower corner is not plain, the least square with the same one.
def rough_squares(sheet):
    least = {}
    for corner in corners(sheet):
        if len(corner) > 1:
            for square in corner:
                least[square] = corner[0]
    return least
