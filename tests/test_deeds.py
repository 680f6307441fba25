"""Point 37: deeds, what they do to a sheet, and the deeds back."""

import random
import unittest

from squaresheet.deeds import Deed, MirrorAcross, MirrorUp, Shear, Turn
from squaresheet.mirrors import mirrored
from squaresheet.moving import moved, sheared, turned
from squaresheet.sheets import gone, sheet_of
from squaresheet.texts import read, shown

from samples import ONE, THREE, block, great_sheets, small_sheets

MANY = list(small_sheets(3)) + great_sheets(30)
NUMBERS = (0, 1, -1, 2, -2, 3, -3, 4, -4, 5, -5, 7, -11, 35, 36, -36, 37, 60, 100, -101, 998, 999, -998, -999)


def deeds():
    told = [Deed(), MirrorAcross(), MirrorUp()]
    return told + [Shear(many) for many in NUMBERS] + [Turn(many) for many in NUMBERS]


def reckoned_shear(sheet, many):
    path = ("l" if many > 0 else "r") * abs(many) + "u"
    return (sheet[0], tuple(gone(sheet, square, path) for square in range(len(sheet[0]))))


class Shears(unittest.TestCase):
    def test_by_hand(self):
        # The row 0 1 2, above it 2 0 1.
        sheet = read("120 201")
        for many, up in ((0, "201"), (1, "120"), (2, "012"), (3, "201"), (-1, "012"), (-2, "120"), (-999, "201")):
            self.assertEqual(shown(Shear(many).done(sheet)), "120 " + up)

    def test_rows_of_several_lengths(self):
        # The row 0 1 2 comes round behind three, the row 3 4 behind two.
        sheet = read("12043 34012")
        self.assertEqual(shown(Shear(1).done(sheet)), "12043 03421")
        self.assertEqual(shown(Shear(2).done(sheet)), "12043 40312")
        self.assertEqual(shown(Shear(3).done(sheet)), "12043 34021")
        self.assertEqual(shown(Shear(-1).done(sheet)), "12043 40321")
        self.assertEqual(Shear(6).done(sheet), sheet)

    def test_as_reckoned_another_way(self):
        for sheet in MANY:
            for many in NUMBERS:
                self.assertEqual(Shear(many).done(sheet), reckoned_shear(sheet, many), (sheet, many))

    def test_as_moved_by_words(self):
        for sheet in MANY:
            self.assertEqual(Shear(1).done(sheet), sheared(sheet))
            self.assertEqual(Shear(7).done(sheet), moved(sheet, "s" * 7))
            self.assertEqual(Shear(999).done(sheet), moved(sheet, "s" * 999))
            self.assertEqual(sheared(Shear(-1).done(sheet)), sheet)

    def test_one_after_another(self):
        for sheet in MANY[::4]:
            for one in NUMBERS:
                for other in (1, -2, 40):
                    self.assertEqual(Shear(other).done(Shear(one).done(sheet)), Shear(one + other).done(sheet))


class Turns(unittest.TestCase):
    def test_by_hand(self):
        sheet = read("1203 1302")
        told = {0: "1203 1302", 1: "2031 1203", 2: "2013 2031", 3: "1302 2013"}
        for many in NUMBERS:
            self.assertEqual(shown(Turn(many).done(sheet)), told[many % 4], many)

    def test_so_many_times_turned(self):
        for sheet in MANY:
            for many in NUMBERS:
                told = Turn(many).done(sheet)
                if many >= 0:
                    self.assertEqual(told, moved(sheet, "t" * many))
                else:
                    self.assertEqual(moved(told, "t" * -many), sheet)

    def test_turned_back_once(self):
        for sheet in MANY:
            self.assertEqual(turned(Turn(-1).done(sheet)), sheet)


class AllDeeds(unittest.TestCase):
    def test_mirrors(self):
        for sheet in MANY:
            self.assertEqual(MirrorAcross().done(sheet), mirrored(sheet))
            self.assertEqual(MirrorUp().done(sheet), mirrored(sheet, False))

    def test_deed_itself(self):
        for sheet in MANY:
            self.assertEqual(Deed().done(sheet), sheet)
            self.assertEqual(Deed().back().done(sheet), sheet)
        self.assertEqual(Deed().shown(), "")
        self.assertEqual(Deed().back().shown(), "")

    def test_the_deed_back_tells_the_very_same_rows(self):
        for sheet in MANY:
            for deed in deeds():
                self.assertEqual(deed.back().done(deed.done(sheet)), sheet, (sheet, deed.shown()))
                self.assertEqual(deed.done(deed.back().done(sheet)), sheet, (sheet, deed.shown()))
                self.assertEqual(deed.back().back().done(sheet), deed.done(sheet))

    def test_many_deeds_and_then_all_back(self):
        source = random.Random(37)
        for sheet in MANY[::3]:
            here, done = sheet, []
            for turn in range(12):
                deed = source.choice(deeds())
                here = deed.done(here)
                done.append(deed)
            for deed in reversed(done):
                here = deed.back().done(here)
            self.assertEqual(here, sheet)

    def test_what_is_told_is_a_sheet(self):
        for sheet in (ONE, THREE, block(6, 6, 1), great_sheets()[-1]):
            for deed in deeds():
                told = deed.done(sheet)
                self.assertEqual(sheet_of(*told), told)
                self.assertEqual([told.__class__, told[0].__class__, told[1].__class__], [tuple] * 3)

    def test_shown(self):
        for deed, text in (
            (Shear(2), "shear 2"), (Shear(-1), "shear -1"), (Shear(0), "shear 0"), (Shear(999), "shear 999"),
            (Shear(-999), "shear -999"), (Turn(-1), "turn -1"), (Turn(0), "turn 0"), (Turn(4), "turn 4"),
            (Turn(999), "turn 999"), (Turn(-999), "turn -999"), (MirrorAcross(), "mirror across"),
            (MirrorUp(), "mirror up"), (Deed(), ""),
        ):
            self.assertEqual(deed.shown(), text)

    def test_the_value_many_as_handed_in(self):
        for many in NUMBERS:
            for deed in (Shear(many), Turn(many), Shear(many=many), Turn(many=many)):
                self.assertEqual(deed.many, many)

    def test_a_deed_is_never_changed(self):
        for deed in deeds():
            text, many = deed.shown(), getattr(deed, "many", None)
            first = deed.done(THREE)
            deed.back().done(block(6, 6))
            deed.done(block(5, 4, 2))
            self.assertEqual((deed.shown(), getattr(deed, "many", None)), (text, many))
            self.assertEqual(deed.done(THREE), first)
            self.assertEqual(deed.done(sheet=THREE), first)

    def test_each_is_a_deed(self):
        self.assertEqual([kind.__bases__ for kind in (Shear, Turn, MirrorAcross, MirrorUp)], [(Deed,)] * 4)
        for deed in deeds():
            self.assertIsInstance(deed, Deed)
            self.assertIsInstance(deed.back(), Deed)
