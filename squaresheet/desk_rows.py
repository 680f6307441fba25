"""Rows of text for the desk: their words taken as what they stand for, or refused."""

from squaresheet.errors import NoRow
from squaresheet.parts import Part
from squaresheet.texts import SIGNS

FIGURES = "0123456789"
MOST_FIGURES = 3
MOST_STEPS = 60
MOST_REACHED = 200

# For each first word the kinds of the words behind it.
KINDS = {
    "sheet": ("text", "text"),
    "shear": ("number",),
    "turn": ("number",),
    "mirror": ("side",),
    "undo": (),
    "form": (),
    "turns": (),
    "counts": (),
    "bands": (),
    "along": ("number", "number"),
    "draw": (),
    "walk": ("square", "part", "part", "number", "number", "steps"),
    "same": ("text", "text"),
    "reach": ("most",),
    "over": ("text", "text"),
}


# The first word, and what each word behind it stands for.
def things_in(row):
    # Parted at each single blank, a blank too many makes an empty word, which stands for nothing.
    words = row.split(" ")
    need(words[0] in KINDS)
    kinds = KINDS[words[0]]
    need(len(words) == len(kinds) + 1)
    return [words[0]] + [thing_in(word, kind) for word, kind in zip(words[1:], kinds)]


def need(fits):
    if not fits:
        raise NoRow("this is none of the desk's rows")


def thing_in(word, kind):
    if kind == "text":
        need(word != "")
        return word
    if kind == "side":
        need(word in ("across", "up"))
        return word
    if kind == "square":
        need(len(word) == 1 and word in SIGNS)
        return SIGNS.index(word)
    if kind == "part":
        return part_in(word)
    number = number_in(word)
    if kind == "steps":
        need(0 <= number <= MOST_STEPS)
    if kind == "most":
        need(1 <= number <= MOST_REACHED)
    return number


def part_in(word):
    numbers = [number_in(piece) for piece in word.split("/")]
    if len(numbers) == 1:
        return Part(numbers[0])
    need(len(numbers) == 2 and numbers[1] > 1)
    part = Part(numbers[0], numbers[1])
    # Not in lowest terms, it is shown otherwise.
    need(part.shown() == word)
    return part


def number_in(word):
    figures = word[1:] if word.startswith("-") else word
    need(1 <= len(figures) <= MOST_FIGURES and all([figure in FIGURES for figure in figures]))
    number = int(word)
    # With a 0 ahead of other figures, or a - ahead of 0, it is written otherwise.
    need(str(number) == word)
    return number
