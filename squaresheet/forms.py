"""Forms: sheets told apart that differ in more than their numbers, and own renumberings."""

from squaresheet.numberings import leads, numbering, renumbered
from squaresheet.sheets import back_row, size


def form(sheet):
    return form_with_numbering(sheet)[0]


def compared(one, other):
    mine = form_with_numbering(one)
    others = form_with_numbering(other)
    if mine[0] == others[0]:
        return ("same", matched(mine[1], others[1]))
    return ("unlike", mine[0], others[0], parting_place(mine[0], others[0]))


def own(sheet):
    # What leads from a sheet to itself is settled by the number that square 0 gets: so each one is tried once,
    # and as these numbers rise, the list is sorted.
    first = numbering(sheet, 0)
    tried = [matched(first, numbering(sheet, square)) for square in range(size(sheet))]
    return [f for f in tried if leads(sheet, sheet, f)]


def form_with_numbering(sheet):
    tried = [numbering(sheet, first) for first in range(size(sheet))]
    return min([(renumbered(sheet, f), f) for f in tried])


# Leads each square to the one that has, in the second numbering, the number that it has in the first one.
def matched(numbers, other_numbers):
    squares = back_row(other_numbers)
    return [squares[number] for number in numbers]


def parting_place(one, other):
    if size(one) != size(other):
        return None
    mine = one[0] + one[1]
    others = other[0] + other[1]
    return min([place for place in range(len(mine)) if mine[place] != others[place]])
