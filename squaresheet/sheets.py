"""Sheets: rows taken as a sheet, groups of squares, paths from square to square."""

from squaresheet.errors import NoSheet, NoSquare, NotTogether, NoWord

MOST_SQUARES = 36


def sheet_of(right, up):
    sheet = checked_rows(right, up)
    parts = groups_of(sheet)
    if len(parts) > 1:
        # The groups stand by their first squares, so the second one begins with the least square out of reach.
        raise NotTogether(parts[1][0])
    return sheet


def size(sheet):
    return len(sheet[0])


def back_row(row):
    back = list(row)
    for square, target in enumerate(row):
        back[target] = square
    return tuple(back)


def groups(right, up):
    return groups_of(checked_rows(right, up))


def gone(sheet, square, path):
    need_square(sheet, square)
    steps = step_rows(sheet)
    if not all([letter in steps for letter in path]):
        raise NoWord("a path has the letters r, l, u, d alone")
    here = square
    for letter in path:
        here = steps[letter][here]
    return here


def path_between(sheet, one, other):
    need_square(sheet, one)
    need_square(sheet, other)
    return paths_from(sheet, one)[other]


def checked_rows(right, up):
    if len(right) != len(up):
        raise NoSheet("the rows are not as long as one another")
    if not 1 <= len(right) <= MOST_SQUARES:
        raise NoSheet(f"a sheet has 1 to {MOST_SQUARES} squares")
    if not (has_each_once(right) and has_each_once(up)):
        raise NoSheet("in each row each square stands just once")
    return (tuple(right), tuple(up))


def has_each_once(row):
    # The kinds are looked at first: what is no whole number need not be fit for a set.
    if not all([is_square(thing, len(row)) for thing in row]):
        return False
    return len(set(row)) == len(row)


def is_whole(thing):
    # To Python a truth is an int too, but True is no square 1.
    return isinstance(thing, int) and not isinstance(thing, bool)


def is_square(thing, squares):
    return is_whole(thing) and 0 <= thing < squares


def need_square(sheet, square):
    if not is_square(square, size(sheet)):
        raise NoSquare("the sheet has not got this square")


def groups_of(rows):
    told = []
    seen = {}
    for first in range(size(rows)):
        if first not in seen:
            group = sorted(paths_from(rows, first))
            told.append(group)
            for square in group:
                seen[square] = True
    return told


def step_rows(rows):
    return {"r": rows[0], "l": back_row(rows[0]), "u": rows[1], "d": back_row(rows[1])}


# Breadth first, so each path is a shortest one: it meets no square twice and has fewer letters than there are squares.
def paths_from(rows, first):
    steps = step_rows(rows)
    paths = {first: ""}
    found = [first]
    done = 0
    while done < len(found):
        here = found[done]
        for letter, row in steps.items():
            if row[here] not in paths:
                paths[row[here]] = paths[here] + letter
                found.append(row[here])
        done += 1
    return paths


def cycle_from(row, first):
    met = [first]
    while row[met[-1]] != first:
        met.append(row[met[-1]])
    return met


def cycles(row):
    # Each cycle is found once from each of its squares; the one from its least square is kept.
    found = [cycle_from(row, first) for first in range(len(row))]
    return [cycle for cycle in found if cycle[0] == min(cycle)]
