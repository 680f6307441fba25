"""Sheets written as texts and read again."""

from squaresheet.errors import NoText
from squaresheet.sheets import sheet_of

SIGNS = "0123456789abcdefghijklmnopqrstuvwxyz"


def shown(sheet):
    right = signs_of(sheet[0])
    up = signs_of(sheet[1])
    return f"{right} {up}"


def read(text):
    # Parted at each single blank, a blank too many makes an empty word, which is refused.
    words = text.split(" ")
    if not is_pair(words):
        raise NoText("a sheet is written as two words of as many signs, 1 to 36, with one blank between")
    return sheet_of(squares_of(words[0]), squares_of(words[1]))


def is_pair(words):
    return len(words) == 2 and len(words[0]) == len(words[1]) and is_word(words[0]) and is_word(words[1])


def is_word(word):
    return 1 <= len(word) <= len(SIGNS) and all([sign in SIGNS for sign in word])


def signs_of(row):
    return "".join([SIGNS[square] for square in row])


def squares_of(word):
    return [SIGNS.index(sign) for sign in word]
