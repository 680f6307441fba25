"""Renumbered sheets, what leads from one sheet to another one, and numberings from a first square."""

from squaresheet.errors import NoRenumbering
from squaresheet.sheets import back_row, has_each_once, need_square, size


def renumbered(sheet, f):
    if not is_renumbering(sheet, f):
        raise NoRenumbering("a renumbering has each number of the sheet's squares once")
    return (renumbered_row(sheet[0], f), renumbered_row(sheet[1], f))


def leads(one, other, f):
    return is_renumbering(one, f) and renumbered(one, f) == other


def numbering(sheet, first):
    need_square(sheet, first)
    found = [first]
    taken = {first: True}
    done = 0
    while done < len(found):
        for row in sheet:
            near = row[found[done]]
            if near not in taken:
                taken[near] = True
                found.append(near)
        done += 1
    # The squares stand in the order of their new numbers; asked for is the new number of each square.
    return list(back_row(found))


def is_renumbering(sheet, f):
    return len(f) == size(sheet) and has_each_once(f)


def renumbered_row(row, f):
    # The square that gets the number n is olds[n].
    olds = back_row(f)
    return tuple([f[row[old]] for old in olds])
