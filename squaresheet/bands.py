"""Level and upright bands: the rows of a sheet, its borders, and the bands between them."""

from squaresheet.corners import rough_squares
from squaresheet.sheets import back_row, cycles


def rows(sheet):
    return cycles(sheet[0])


def borders(sheet):
    rough = rough_squares(sheet)
    if len(rough) == 0:
        return [0]
    return sorted(rough)


def bands(sheet):
    edge = borders(sheet)
    return sorted([band_from(sheet, edge, row) for row in rows(sheet) if has_some(edge, row)])


def upright(sheet):
    return bands((sheet[1], back_row(sheet[0])))


def has_some(edge, squares):
    return any([square in edge for square in squares])


def band_from(sheet, edge, lowest):
    above = above_all(sheet, lowest)
    width = 1
    while not has_some(edge, above):
        above = above_all(sheet, above)
        width += 1
    length = len(lowest)
    shifts = [t for t in range(length) if has_shift(edge, lowest, above, t)]
    return (length, width, tuple(shifts))


def above_all(sheet, squares):
    return [sheet[1][square] for square in squares]


# Within a band the squares above a row stand in its order. So going up from the lowest row, then to the right in the
# highest one, then up, leads to the square above that stands as much farther on.
def has_shift(edge, lowest, above, t):
    length = len(lowest)
    return any([lowest[k] in edge and above[(k + t) % length] in edge for k in range(length)])
