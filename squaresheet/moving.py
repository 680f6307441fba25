"""Sheets and places moved by words: sheared and turned, letter by letter."""

from squaresheet.parts import Part
from squaresheet.sheets import back_row
from squaresheet.tables import need_word
from squaresheet.walks import need_place


def sheared(sheet):
    left = back_row(sheet[0])
    return (sheet[0], tuple([sheet[1][square] for square in left]))


def turned(sheet):
    return (back_row(sheet[1]), sheet[0])


def moved(sheet, word):
    need_word(word)
    told = sheet
    for letter in word:
        told = moved_once(told, letter)
    return told


def moved_place(sheet, place, word):
    need_place(sheet, place)
    need_word(word)
    told = place
    # Each letter moves the place on the sheet as the letters ahead of it left it.
    lying = sheet
    for letter in word:
        told = place_moved_once(lying, told, letter)
        lying = moved_once(lying, letter)
    return told


def moved_once(sheet, letter):
    if letter == "s":
        return sheared(sheet)
    return turned(sheet)


def place_moved_once(sheet, place, letter):
    if letter == "s":
        return sheared_place(sheet, place)
    return turned_place(sheet, place)


def sheared_place(sheet, place):
    x = place[1].plus(place[2])
    if x.whole() == 0:
        return (place[0], x, place[2])
    return (sheet[0][place[0]], x.rest(), place[2])


def turned_place(sheet, place):
    nought = Part(0)
    if place[2].same(nought):
        # The lower side becomes a right side, and a point there is told by the square behind it.
        return (back_row(sheet[1])[place[0]], nought, place[1])
    return (place[0], Part(1).minus(place[2]), place[1])
