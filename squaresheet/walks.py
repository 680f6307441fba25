"""Straight walks over a sheet, over its sides and plain corners, and when they come back."""

from squaresheet.corners import rough_squares
from squaresheet.errors import NoPlace, NoWay
from squaresheet.parts import Part, common_divisor
from squaresheet.sheets import back_row, is_square, size

FARTHEST = 60


def walk(sheet, place, p, q, steps=1):
    need_place(sheet, place)
    need_way(p, q)
    return walked(sheet, place, p, q, steps)


def back_after(sheet, place, p, q):
    need_place(sheet, place)
    need_straight_way(p, q)
    here = place
    steps = 0
    # Only behind whole steps x and y are as they were, and then they always are: so the squares alone are compared.
    while steps == 0 or here[0] != place[0]:
        told = walked(sheet, here, p, q, 1)
        if told[0] == "corner":
            return ("corner", told[1], told[2].plus(Part(steps)))
        here = told[1]
        steps += 1
    return ("back", steps)


def need_place(sheet, place):
    if not (is_square(place[0], size(sheet)) and is_inside(place[1]) and is_inside(place[2])):
        raise NoPlace("a place is a square of the sheet, and an x and a y from 0 on and less than 1")


def is_inside(part):
    return part.whole() == 0


def need_way(p, q):
    if abs(p) > FARTHEST or abs(q) > FARTHEST or (p == 0 and q == 0):
        raise NoWay(f"a direction is two numbers from -{FARTHEST} to {FARTHEST}, not both 0")


def need_straight_way(p, q):
    need_way(p, q)
    if common_divisor(p, q) > 1:
        raise NoWay("a number above 1 divides both numbers of the direction")


def walked(sheet, place, p, q, steps):
    unit = unit_of(place, p, q)
    rough = rough_squares(sheet)
    back = (back_row(sheet[0]), back_row(sheet[1]))
    spot = (place[0], in_units(place[1], unit), in_units(place[2], unit))
    ticks = 0
    while ticks < steps * unit and not is_at_corner(spot, rough):
        spot = set_out(spot, p, q, back, unit)
        room = min(ticks_to_side(spot[1], p, unit), ticks_to_side(spot[2], q, unit), steps * unit - ticks)
        spot = arrived((spot[0], spot[1] + p * room, spot[2] + q * room), sheet, unit)
        ticks += room
    if is_at_corner(spot, rough):
        return ("corner", rough[spot[0]], Part(ticks, unit))
    return ("there", (spot[0], Part(spot[1], unit), Part(spot[2], unit)))


# The sides of a square are this many units long and a step takes as many ticks: p units to the right and q up in each.
# So many that x and y are whole at the beginning, and each side is met at a whole tick.
def unit_of(place, p, q):
    return place[1].bottom * place[2].bottom * max(abs(p), 1) * max(abs(q), 1)


def in_units(part, unit):
    return part.top * (unit // part.bottom)


def is_at_corner(spot, rough):
    return spot[1] == 0 and spot[2] == 0 and spot[0] in rough


# A place on a left or lower side is told by the square behind this side; going to the left or down, one leaves that
# square at once. At a corner, which is plain here, left and then down leads where down and then left does.
def set_out(spot, p, q, back, unit):
    square = spot[0]
    x = spot[1]
    y = spot[2]
    if p < 0 and x == 0:
        square = back[0][square]
        x = unit
    if q < 0 and y == 0:
        square = back[1][square]
        y = unit
    return (square, x, y)


def ticks_to_side(at, speed, unit):
    if speed > 0:
        return (unit - at) // speed
    if speed < 0:
        return at // -speed
    # No side is met this way; across it one is met within so many ticks.
    return unit


def arrived(spot, sheet, unit):
    square = spot[0]
    x = spot[1]
    y = spot[2]
    if x == unit:
        square = sheet[0][square]
        x = 0
    if y == unit:
        square = sheet[1][square]
        y = 0
    return (square, x, y)
