"""The interface: every name that the document tells is there, with its arguments."""

import importlib
import inspect
import unittest

from squaresheet.parts import Part

FUNCTIONS = {
    "sheets": (
        "sheet_of(right, up)", "size(sheet)", "back_row(row)", "groups(right, up)", "gone(sheet, square, path)",
        "path_between(sheet, one, other)",
    ),
    "texts": ("shown(sheet)", "read(text)"),
    "corners": (
        "round_of(sheet, square)", "is_plain(sheet, square)", "corners(sheet)", "turns(sheet)", "counts(sheet)",
    ),
    "numberings": ("renumbered(sheet, f)", "leads(one, other, f)", "numbering(sheet, first)"),
    "forms": ("form(sheet)", "compared(one, other)", "own(sheet)"),
    "walks": ("walk(sheet, place, p, q, steps=1)", "back_after(sheet, place, p, q)"),
    "bands": ("rows(sheet)", "borders(sheet)", "bands(sheet)", "upright(sheet)"),
    "tables": (
        "table_of(word)", "product(one, other)", "back_table(table)", "led(table, p, q)", "word_of(table)",
    ),
    "moving": ("sheared(sheet)", "turned(sheet)", "moved(sheet, word)", "moved_place(sheet, place, word)"),
    "along": ("to_level(p, q)", "bands_along(sheet, p, q)"),
    "reach": ("reached(sheet, most)", "way(one, other, most)"),
    "covers": ("is_map(sheet, base, m)", "laid(sheet, base)", "folded(sheet, one, other)"),
    "mirrors": ("mirrored(sheet, across=True)",),
    "drawings": ("drawn(sheet)", "seen(rows)"),
}
CLASSES = {
    "parts": {
        "Part(top, bottom=1)": (
            "plus(self, other)", "minus(self, other)", "times(self, other)", "under(self, other)", "same(self, other)",
            "whole(self)", "rest(self)", "shown(self)",
        ),
    },
    "deeds": {
        kind: ("done(self, sheet)", "back(self)", "shown(self)")
        for kind in ("Deed()", "Shear(many)", "Turn(many)", "MirrorAcross()", "MirrorUp()")
    },
    "desk": {"Desk()": ("say(self, row)", "sheet(self)", "steps(self)")},
}


def told(owner, row):
    name = row.partition("(")[0]
    return name + str(inspect.signature(getattr(owner, name)))


class Interface(unittest.TestCase):
    def test_functions(self):
        for module, rows in FUNCTIONS.items():
            owner = importlib.import_module("squaresheet." + module)
            for row in rows:
                with self.subTest(module=module, row=row):
                    self.assertEqual(told(owner, row), row)

    def test_classes(self):
        for module, kinds in CLASSES.items():
            owner = importlib.import_module("squaresheet." + module)
            for row, methods in kinds.items():
                with self.subTest(module=module, row=row):
                    self.assertEqual(told(owner, row), row)
                    kind = getattr(owner, row.partition("(")[0])
                    for method in methods:
                        self.assertEqual(told(kind, method), method)

    def test_values(self):
        part = Part(6, -4)
        self.assertEqual((part.top, part.bottom), (-3, 2))
        self.assertEqual(Part(top=4).bottom, 1)
