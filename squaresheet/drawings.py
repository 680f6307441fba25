"""Sheets drawn as texts, two for each row, and seen again."""

from squaresheet.errors import NoDrawing, NoSheet, NotTogether
from squaresheet.sheets import cycles, sheet_of
from squaresheet.texts import SIGNS


def drawn(sheet):
    texts = []
    for row in cycles(sheet[0]):
        texts.append(between(" ", [sheet[1][square] for square in row]))
        texts.append(between("|", row))
    return texts


def seen(rows):
    pairs = [(squares_in(rows[k - 1]), squares_in(rows[k])) for k in range(1, len(rows), 2)]
    sheet = sheet_told(pairs)
    # What was read is less than what stands there, so only the drawing itself tells whether it is one.
    if sheet is None or drawn(sheet) != rows:
        raise NoDrawing("this is not the drawing of a sheet")
    return sheet


def between(border, squares):
    return border + "".join([SIGNS[square] + border for square in squares])


# Every second sign is a border. A sign of no square is told as -1, which no sheet has.
def squares_in(text):
    return [SIGNS.find(sign) for sign in text[1::2]]


# The sheet whose rows and whose squares above them are told, or None where they make none.
def sheet_told(pairs):
    right = {}
    up = {}
    for pair in pairs:
        row = pair[1]
        for k, square in enumerate(row):
            right[square] = row[(k + 1) % len(row)]
        for square, above in zip(row, pair[0]):
            up[square] = above
    try:
        return sheet_of(in_order(right), in_order(up))
    except (NoSheet, NotTogether):
        return None


# Where a square is left out, None stands in its place, which no sheet has either.
def in_order(told):
    return [told.get(square) for square in range(len(told))]
