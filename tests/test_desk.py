"""Points 38 and 39: the desk's rows, its answers, and what it refuses."""

import random
import unittest

from squaresheet import errors
from squaresheet.along import bands_along
from squaresheet.bands import bands
from squaresheet.corners import counts, turns
from squaresheet.covers import laid
from squaresheet.deeds import MirrorAcross, MirrorUp, Shear, Turn
from squaresheet.desk import Desk
from squaresheet.drawings import drawn, seen
from squaresheet.forms import compared, form
from squaresheet.numberings import leads, renumbered
from squaresheet.parts import Part
from squaresheet.reach import reached
from squaresheet.texts import read, shown
from squaresheet.walks import walk

from samples import ONE, THREE, block, great_sheets, shuffled, slit, small_sheets

SIGNS = "0123456789abcdefghijklmnopqrstuvwxyz"
MANY = list(small_sheets(3)) + great_sheets(30)
# The refusals of RIGHT and UP, with a blank between.
PAIRS = (
    ("0 01", errors.NoText), ("01 0", errors.NoText), ("A A", errors.NoText), ("0! 01", errors.NoText),
    ("0\t 00", errors.NoText), ("10\n 01", errors.NoText), ("\u0663 0", errors.NoText), ("- -", errors.NoText),
    ("0" * 37 + " " + "0" * 37, errors.NoText), (SIGNS + "0 " + SIGNS + "0", errors.NoText),
    ("00 01", errors.NoSheet), ("01 11", errors.NoSheet), ("1 0", errors.NoSheet), ("0 1", errors.NoSheet),
    ("12 10", errors.NoSheet), ("z z", errors.NoSheet), ("undo undo", errors.NoSheet),
    ("0" * 36 + " " + SIGNS, errors.NoSheet),
    ("01 01", errors.NotTogether), ("021 021", errors.NotTogether), ("102 012", errors.NotTogether),
)
# Numbers written otherwise than by one to three figures.
NO_NUMBERS = (
    "+1", "01", "-0", "00", "-00", "001", "-01", "1000", "-1000", "0999", "-", "--1", "1-", "1.0", "1.", "x", "1x",
    "1_0", "0x1", "1e2", "1/2", "\u0663", "\u00b2", "\u0b66", "1\n", "\n1", "\t1", "1\t", "-\u0661", "\u22121",
    "\uff11", "one", "None", "~1", "9" * 60, "1,0", "'1'",
)
NO_PARTS = (
    "+1", "01", "-0", "00", "1000", "-1000", "-", "x", "0.5", ".5", "1/1", "0/1", "3/1", "-2/1", "0/2", "0/999", "2/4",
    "-2/4", "3/9", "998/999/1", "1/0", "0/0", "1/-2", "-1/-2", "1/+2", "+1/2", "1/02", "01/2", "-0/2", "1//2", "/2",
    "1/", "/", "1/2/3", "1/1000", "1000/1001", "1000/3", "-1000/3", "1\\2", "1:2", "1/2\n", "\t1/2", "\u00bd",
    "1/\u0662", "--1/2", "-/2", "1/x", "x/2", "1/2/", "6/4", "100/200",
)
NO_SIGNS = ("A", "Z", "00", "01", "10", "-1", "-", "!", "|", "\u00e9", "\u0663", "\t", "\n", "0\n", "zz", "+0")
NO_ROWS = (
    "", " ", "  ", "\n", "\t", "0", "x", "sheets 0 0", "Sheet 0 0", "SHEET 0 0", "sheet\t0 0", "0 0", "102 210",
    "sheet", "sheet 0", "sheet 0 0 0", "sheet 0 0 x", "shear", "shear 1 1", "shear1", "shear -1 0", "turn", "turn 1 1",
    "mirror", "mirror 0", "mirror Across", "mirror across up", "mirror across across", "mirror acros", "mirror upp",
    "mirror ac", "mirror down", "mirror left", "mirror up 1", "mirror acrossup", "across", "up", "undo 1", "undo undo",
    "Undo", "undone", "form 0", "form 0 0", "forms", "turns 0", "Turns", "counts 0", "count", "counts 1 6 3 2",
    "bands 0", "band", "bands 1 0", "along", "along 1", "along 1 0 1", "along 1 0 0", "draw 0", "drawn", "walk",
    "walk 0", "walk 0 0 0 1 0", "walk 0 0 0 1 0 1 1", "walk 0 0 0 1", "same", "same 0", "same 0 0 0", "reach",
    "reach 1 1", "reached 3", "over", "over 0", "over 0 0 0", "over 0 0 0 0", "way 0 0", "help", "shear 1\n", "form\n",
    "\nform", "form\tform", "form form", "sheet\n0\n0", "steps", "sheet 0 0\nundo 1 1",
)
GOOD_ROWS = (
    "sheet 102 210", "shear 1", "turn -1", "mirror across", "mirror up", "undo", "form", "turns", "counts", "bands",
    "along 1 1", "draw", "walk 0 1/2 1/3 1 1 5", "same 102 210", "reach 200", "over 0 0",
)


def laid_out(text):
    """A desk on which this sheet lies."""
    desk = Desk()
    desk.say("sheet " + text)
    return desk


class Changes(unittest.TestCase):
    def check(self, desk, row, text, steps):
        told = desk.say(row)
        self.assertEqual((row, told), (row, [text]))
        self.assertEqual(shown(desk.sheet()), text)
        self.assertEqual(desk.steps(), steps)

    def test_the_first_sheet(self):
        desk = Desk()
        self.assertEqual(desk.sheet(), ONE)
        self.assertEqual(desk.steps(), 0)
        self.assertEqual(desk.say("form"), ["0 0"])

    def test_a_desk_is_told_rows(self):
        desk = Desk()
        self.check(desk, "sheet 102 210", "102 210", 1)
        self.check(desk, "shear 1", "102 120", 2)
        self.check(desk, "turn 1", "201 102", 3)
        self.check(desk, "mirror across", "120 102", 4)
        self.check(desk, "mirror up", "120 102", 5)
        self.check(desk, "undo", "120 102", 4)
        self.check(desk, "undo", "201 102", 3)
        self.check(desk, "shear 0", "201 102", 4)
        self.check(desk, "turn -1", "102 120", 5)
        self.check(desk, "shear -1", "102 210", 6)
        for text, steps in (("102 120", 5), ("201 102", 4), ("201 102", 3), ("102 120", 2), ("102 210", 1), ("0 0", 0)):
            self.check(desk, "undo", text, steps)
        self.check(desk, "sheet 10 01", "10 01", 1)

    def test_each_change_as_its_deed_does_it(self):
        numbers = (0, 1, -1, 2, -3, 9, 10, -10, 99, 100, -100, 998, 999, -999)
        deeds = [("shear " + str(many), Shear(many)) for many in numbers]
        deeds += [("turn " + str(many), Turn(many)) for many in numbers]
        deeds += [("mirror across", MirrorAcross()), ("mirror up", MirrorUp())]
        for sheet in MANY:
            for row, deed in deeds:
                self.assertEqual(deed.shown(), row)
                desk = laid_out(shown(sheet))
                self.check(desk, row, shown(deed.done(sheet)), 2)
                self.check(desk, "undo", shown(sheet), 1)

    def test_another_sheet(self):
        desk = Desk()
        for steps, sheet in enumerate(MANY):
            self.check(desk, "sheet " + shown(sheet), shown(sheet), steps + 1)
            self.assertEqual(desk.sheet(), sheet)
        for steps in range(len(MANY) - 1, 0, -1):
            self.check(desk, "undo", shown(MANY[steps - 1]), steps)
        self.check(desk, "undo", "0 0", 0)

    def test_the_same_sheet_again_is_a_step_too(self):
        desk = Desk()
        for steps, row in enumerate(("sheet 0 0", "shear 5", "turn 3", "mirror up", "shear 0", "sheet 0 0")):
            self.check(desk, row, "0 0", steps + 1)

    def test_what_asks_alone_is_no_step(self):
        desk = laid_out("102 210")
        for row in GOOD_ROWS[6:]:
            desk.say(row)
            self.assertEqual((desk.sheet(), desk.steps()), (THREE, 1))
        self.check(desk, "undo", "0 0", 0)

    def test_mixed_at_random(self):
        source = random.Random(38)
        for turn in range(60):
            desk, lying = Desk(), [ONE]
            for change in range(40):
                row = source.choice(("undo", "undo", "shear", "turn", "mirror across", "mirror up", "sheet", "turns"))
                many = source.randrange(-999, 1000)
                if row == "undo":
                    if len(lying) == 1:
                        with self.assertRaises(errors.NothingDone):
                            desk.say("undo")
                        continue
                    lying.pop()
                elif row == "sheet":
                    lying.append(source.choice(MANY))
                    row += " " + shown(lying[-1])
                elif row != "turns":
                    deeds = {"shear": Shear(many), "turn": Turn(many), "mirror across": MirrorAcross()}
                    deed = deeds.get(row, MirrorUp())
                    lying.append(deed.done(lying[-1]))
                    row = deed.shown()
                told = desk.say(row)
                if row != "turns":
                    self.assertEqual(told, [shown(lying[-1])])
                self.assertEqual((desk.sheet(), desk.steps()), (lying[-1], len(lying) - 1))

    def test_many_steps(self):
        desk = laid_out("102 210")
        for turn in range(500):
            desk.say("shear 1" if turn % 3 else "turn 1")
        self.assertEqual(desk.steps(), 501)
        for turn in range(500):
            told = desk.say("undo")
        self.assertEqual((told, desk.steps()), (["102 210"], 1))

    def test_two_desks(self):
        one, other = Desk(), Desk()
        one.say("sheet 102 210")
        self.assertEqual((other.sheet(), other.steps()), (ONE, 0))
        other.say("sheet 10 01")
        other.say("turn 1")
        self.assertEqual((one.sheet(), one.steps()), (THREE, 1))


class Answers(unittest.TestCase):
    def ask(self, text, row, told):
        desk = laid_out(text)
        self.assertEqual((row, desk.say(row)), (row, told))
        self.assertEqual(desk.say(row), told)
        self.assertEqual((shown(desk.sheet()), desk.steps()), (text, 1))

    def test_form(self):
        self.ask("102 210", "form", ["021 102"])
        self.ask("0 0", "form", ["0 0"])
        for sheet in MANY:
            self.ask(shown(sheet), "form", [shown(form(sheet))])

    def test_turns(self):
        self.ask("102 210", "turns", ["3"])
        self.ask("10 01", "turns", ["1 1"])
        self.ask(shown(slit(block(4, 2), 0, 2)), "turns", ["1 1 1 1 2 2"])
        for sheet in MANY:
            self.ask(shown(sheet), "turns", [" ".join(map(str, turns(sheet)))])

    def test_counts(self):
        self.ask("102 210", "counts", ["1 6 3 2"])
        self.ask("0 0", "counts", ["1 2 1 1"])
        self.ask(shown(block(6, 6)), "counts", ["36 72 36 1"])
        for sheet in MANY:
            self.ask(shown(sheet), "counts", [" ".join(map(str, counts(sheet)))])

    def test_bands(self):
        self.ask("102 210", "bands", ["1x1+0", "2x1+0,1"])
        self.ask("0 0", "bands", ["1x1+0"])
        self.ask(shown(block(1, 36)), "bands", ["1x36+0"])
        self.ask(shown(block(12, 3, 2)), "bands", ["12x3+10"])
        self.ask("12034 31240", "bands", ["1x2+0", "3x1+0,1,2"])
        for sheet in MANY:
            told = [f"{length}x{width}+{','.join(map(str, shifts))}" for length, width, shifts in bands(sheet)]
            self.ask(shown(sheet), "bands", told)

    def test_along(self):
        self.ask("102 210", "along 1 0", ["1x1", "2x1"])
        self.ask("102 210", "along 1 1", ["3x1"])
        self.ask("102 210", "along -60 59", [f"{a}x{b}" for a, b in bands_along(THREE, -60, 59)])
        self.ask(shown(block(36, 1)), "along 0 -1", ["1x36"])
        for sheet in MANY:
            for p, q in ((0, 1), (-3, 2), (5, -1)):
                told = [f"{length}x{width}" for length, width in bands_along(sheet, p, q)]
                self.ask(shown(sheet), f"along {p} {q}", told)

    def test_draw(self):
        self.ask("102 210", "draw", [" 2 1 ", "|0|1|", " 0 ", "|2|"])
        for sheet in MANY:
            self.ask(shown(sheet), "draw", drawn(sheet))
            self.assertEqual(seen(laid_out(shown(sheet)).say("draw")), sheet)

    def test_walk(self):
        self.ask("102 210", "walk 0 1/2 1/3 1 1 1", ["there 1 1/2 1/3"])
        self.ask("102 210", "walk 0 1/2 1/3 1 1 0", ["there 0 1/2 1/3"])
        self.ask("102 210", "walk 1 1/2 0 1 0 5", ["corner 0 1/2"])
        self.ask("102 210", "walk 2 0 0 1 0 5", ["corner 0 0"])
        self.ask("102 210", "walk 0 1/2 1/3 3 4 5", ["corner 0 1/6"])
        self.ask("102 210", "walk 2 0 1/2 0 -60 60", ["corner 0 1/120"])
        self.ask("102 210", "walk 2 1/3 1/2 0 -60 60", ["there 2 1/3 1/2"])
        self.ask(shown(slit(block(6, 2), 0, 3)), "walk 7 1/4 0 1 0 9", ["corner 6 7/4"])
        self.ask(shown(slit(block(6, 2), 0, 3)), "walk b 1/4 0 1 0 0", ["there b 1/4 0"])
        self.ask(shown(slit(block(4, 2), 0, 2)), "walk 0 0 0 1 1 1", ["corner 5 1"])
        self.ask(shown(block(36, 1)), "walk z 998/999 1/997 1 0 60", ["there n 998/999 1/997"])
        self.ask(shown(block(36, 1)), "walk a 0 0 -1 0 60", ["there m 0 0"])

    def test_walks_on_many_sheets(self):
        source = random.Random(18)
        met = []
        for sheet in MANY:
            for turn in range(3):
                square, steps = source.randrange(len(sheet[0])), source.choice((0, 1, 2, 5))
                x, y = (Part(source.randrange(bottom), bottom) for bottom in source.choice(((2, 3), (1, 1), (6, 6))))
                p, q = source.choice(((1, 0), (0, -1), (2, 3), (-3, 1), (4, -4), (-1, -2)))
                told = walk(sheet, (square, x, y), p, q, steps)
                if told[0] == "there":
                    wanted = f"there {SIGNS[told[1][0]]} {told[1][1].shown()} {told[1][2].shown()}"
                else:
                    wanted = f"corner {SIGNS[told[1]]} {told[2].shown()}"
                met.append(told[0])
                self.ask(shown(sheet), f"walk {SIGNS[square]} {x.shown()} {y.shown()} {p} {q} {steps}", [wanted])
        self.assertGreater(min(met.count("there"), met.count("corner")), 30)

    def test_same(self):
        self.ask("102 210", "same 102 210", ["same 012"])
        self.ask("102 210", "same 210 021", ["same 201"])
        self.ask("0 0", "same 0 0", ["same 0"])
        source = random.Random(14)
        for sheet in MANY:
            other = renumbered(sheet, shuffled(source, len(sheet[0])))
            told = laid_out(shown(sheet)).say("same " + shown(other))
            self.assertEqual((len(told), told[0][:5], len(told[0])), (1, "same ", 5 + len(sheet[0])))
            self.assertIs(leads(sheet, other, [SIGNS.index(sign) for sign in told[0][5:]]), True)

    def test_unlike(self):
        self.ask("102 210", "same 120 012", ["unlike 021 102 120 012 0"])
        self.ask("102 210", "same 102 120", ["unlike 021 102 021 120 4"])
        self.ask("102 210", "same 0 0", ["unlike 021 102 0 0 -"])
        self.ask("0 0", "same 102 210", ["unlike 0 0 021 102 -"])
        for one, other in zip(MANY, MANY[1:]):
            told = compared(one, other)
            if told[0] == "unlike":
                place = "-" if told[3] is None else told[3]
                wanted = f"unlike {shown(told[1])} {shown(told[2])} {place}"
                self.ask(shown(one), "same " + shown(other), [wanted])

    def test_reach(self):
        self.ask("0 0", "reach 1", ["1"])
        self.ask("102 210", "reach 3", ["3"])
        self.ask("102 210", "reach 200", ["3"])
        self.ask(shown(block(36, 1)), "reach 72", ["72"])
        self.ask("123456780 134567802", "reach 200", ["108"])
        self.ask("12034 31240", "reach 99", [str(len(reached(read("12034 31240"), 99)))])

    def test_over(self):
        self.ask("102 210", "over 0 0", ["000"])
        self.ask("102 210", "over 10 01", ["none"])
        self.ask("1230 0123", "over 10 01", ["0101"])
        self.ask("10 01", "over 1230 0123", ["none"])
        self.ask("102 210", "over 210 021", ["201"])
        self.ask(shown(block(36, 1)), "over " + shown(block(12, 1)), [SIGNS[:12] * 3])
        for one in MANY[:60]:
            for other in MANY[:60:7] + [ONE, one]:
                m = laid(one, other)
                told = "none" if m is None else "".join(SIGNS[square] for square in m)
                self.ask(shown(one), "over " + shown(other), [told])


class Refusals(unittest.TestCase):
    def setUp(self):
        self.desk = laid_out("102 210")
        self.desk.say("shear 1")
        self.desk.say("turn 1")
        self.desk.say("undo")

    def refuse(self, row, refusal):
        kept = (self.desk.sheet(), self.desk.steps())
        with self.subTest(row=row), self.assertRaises(errors.SheetError) as caught:
            self.desk.say(row)
        self.assertIs(caught.exception.__class__, refusal, row)
        self.assertEqual((self.desk.sheet(), self.desk.steps()), kept)
        return caught.exception

    def tearDown(self):
        # What was refused changes nothing of what is undone later.
        self.assertEqual(self.desk.say("form"), ["021 120"])
        self.assertEqual(self.desk.say("undo"), ["102 210"])
        self.assertEqual(self.desk.say("undo"), ["0 0"])
        self.assertEqual((self.desk.sheet(), self.desk.steps()), (ONE, 0))

    def test_no_words_unknown_words_words_more_or_fewer(self):
        for row in NO_ROWS:
            self.refuse(row, errors.NoRow)
        for row in GOOD_ROWS:
            if row != "undo":
                self.refuse(row + " x", errors.NoRow)
                self.refuse(row + " 0", errors.NoRow)
            self.refuse("x " + row, errors.NoRow)
            self.refuse(row.upper(), errors.NoRow)
            if " " in row:
                self.refuse(row.rpartition(" ")[0], errors.NoRow)
            else:
                self.refuse(row + "\n", errors.NoRow)

    def test_a_blank_more(self):
        for row in GOOD_ROWS:
            self.refuse(" " + row, errors.NoRow)
            self.refuse(row + " ", errors.NoRow)
            self.refuse("  " + row + "  ", errors.NoRow)
            for at, sign in enumerate(row):
                if sign == " ":
                    self.refuse(row[:at] + " " + row[at:], errors.NoRow)
                    self.refuse(row[:at] + "\t" + row[at + 1:], errors.NoRow)
        # As many words as there should be, but empty ones among them.
        for row in ("sheet 0 ", "sheet  0", "sheet  ", "same  0", "same 0 ", "over  ", "over 0 ", "shear ", "turn ",
                    "mirror ", "along  1", "along 1 ", "reach ", "walk 0 0 0 1 0 ", "walk  0 0 1 0 1",
                    "walk 0  0 1 0 1"):
            self.refuse(row, errors.NoRow)

    def test_numbers_written_otherwise(self):
        for word in NO_NUMBERS:
            for row in ("shear {}", "turn {}", "along {} 1", "along 1 {}", "reach {}", "walk 0 0 0 {} 1 1",
                        "walk 0 0 0 1 {} 1", "walk 0 0 0 1 1 {}"):
                self.refuse(row.replace("{}", word), errors.NoRow)

    def test_parts_written_otherwise(self):
        for word in NO_PARTS:
            self.refuse("walk 0 " + word + " 0 1 0 1", errors.NoRow)
            self.refuse("walk 0 0 " + word + " 1 0 1", errors.NoRow)

    def test_an_s_that_is_none_of_the_signs(self):
        for word in NO_SIGNS:
            self.refuse("walk " + word + " 0 0 1 0 1", errors.NoRow)

    def test_an_n_that_is_not_let_in(self):
        for word in ("61", "62", "99", "100", "999", "-1", "-60", "-999"):
            self.refuse("walk 0 1/2 1/3 1 0 " + word, errors.NoRow)
        for word in ("0", "201", "202", "999", "-1", "-200", "-999"):
            self.refuse("reach " + word, errors.NoRow)

    def test_right_and_up(self):
        for row in ("sheet ", "same ", "over "):
            for pair, refusal in PAIRS:
                self.refuse(row + pair, refusal)
            self.assertEqual(self.refuse(row + "01 01", errors.NotTogether).square, 1)
            self.assertEqual(self.refuse(row + "102 012", errors.NotTogether).square, 2)
            self.assertEqual(self.refuse(row + "012345 210543", errors.NotTogether).square, 1)

    def test_no_place(self):
        for row in ("walk 3 0 0 1 0 1", "walk z 1/2 1/2 1 0 1", "walk 0 1 0 1 0 1", "walk 0 0 1 1 0 1",
                    "walk 0 -1/2 0 1 0 1",
                    "walk 0 0 -1/2 1 0 1", "walk 0 3/2 0 1 0 1", "walk 0 0 999/2 1 0 1", "walk 0 -1 0 1 0 1",
                    "walk 0 999 0 1 0 1", "walk 0 0 -999 1 0 0", "walk 0 -999/998 1/2 1 1 60"):
            self.refuse(row, errors.NoPlace)

    def test_no_way(self):
        for ways in ("0 0", "61 0", "0 61", "-61 1", "1 -61", "999 -999", "0 100"):
            self.refuse("along " + ways, errors.NoWay)
            self.refuse("walk 0 1/2 1/3 " + ways + " 1", errors.NoWay)
            self.refuse("walk 0 0 0 " + ways + " 0", errors.NoWay)
        for ways in ("2 0", "0 2", "2 -2", "60 60", "-9 6", "0 -60"):
            self.refuse("along " + ways, errors.NoWay)
            self.assertEqual(self.desk.say("walk 0 0 0 " + ways + " 1"), ["corner 0 0"])

    def test_too_many(self):
        for row in ("reach 1", "reach 2"):
            self.refuse(row, errors.TooMany)
        self.assertEqual(self.desk.say("reach 3"), ["3"])
        desk = laid_out("123456789a0 23546789a01")
        for row in ("reach 1", "reach 200"):
            with self.assertRaises(errors.TooMany):
                desk.say(row)

    def test_two_faults(self):
        for row in ("walk z 1 0 0 0 61", "walk z 1 0 0 0 -1", "walk z 1/1 0 0 0 1", "walk 3 0 0 61 01 1", "along 61 01",
                    "along 0 +0", "walk A 1 0 0 0 1", "sheet 00 01 0", "sheet 0 01 ", "same 0", "over A  A", "reach 0",
                    "walk 0 2/4 -1 0 0 1", "sheet  01 01"):
            self.refuse(row, errors.NoRow)
        for row in ("walk z 0 0 0 0 1", "walk 0 1 0 61 0 60", "walk 3 -1/2 2 0 0 0"):
            self.refuse(row, errors.NoPlace)
        # Other signs come ahead of a number twice, and this ahead of rows that hang not together.
        self.refuse("sheet 0 !!", errors.NoText)
        self.refuse("sheet 0! 00", errors.NoText)
        self.refuse("sheet 001 012", errors.NoSheet)


class NothingDone(unittest.TestCase):
    def test_nothing_is_left_to_undo(self):
        desk = Desk()
        for turn in range(3):
            with self.assertRaises(errors.SheetError) as caught:
                desk.say("undo")
            self.assertIs(caught.exception.__class__, errors.NothingDone)
            self.assertEqual((desk.sheet(), desk.steps()), (ONE, 0))
        desk.say("sheet 102 210")
        desk.say("undo")
        with self.assertRaises(errors.NothingDone):
            desk.say("undo")
        # What asks alone leaves nothing to undo either.
        for row in GOOD_ROWS[6:12]:
            desk.say(row)
        with self.assertRaises(errors.NothingDone):
            desk.say("undo")

    def test_no_row_comes_ahead_of_nothing_done(self):
        desk = Desk()
        for row in ("undo ", " undo", "undo 1", "undo undo"):
            with self.assertRaises(errors.NoRow):
                desk.say(row)


class KeptApart(unittest.TestCase):
    def test_each_list_that_is_told_is_a_new_one(self):
        for row in GOOD_ROWS[6:]:
            desk = laid_out("102 210")
            one, other = desk.say(row), desk.say(row)
            kept = list(other)
            one.clear()
            one.append("x")
            self.assertEqual(other, kept)
            self.assertEqual(desk.say(row), kept)
            self.assertEqual((desk.sheet(), desk.steps()), (THREE, 1))

    def test_a_sheet_that_was_told_stays(self):
        desk = laid_out("102 210")
        told, answer = desk.sheet(), desk.say("form")
        desk.say("shear 1")
        desk.say("undo")
        desk.say("undo")
        self.assertEqual((told, answer), (THREE, ["021 102"]))

    def test_kinds(self):
        desk = Desk()
        for row in GOOD_ROWS:
            told = desk.say(row)
            self.assertIs(told.__class__, list)
            self.assertEqual({text.__class__ for text in told}, {str})
            self.assertEqual([desk.sheet().__class__] + [row.__class__ for row in desk.sheet()], [tuple] * 3)
            self.assertIs(desk.steps().__class__, int)

    def test_the_arguments_have_their_names(self):
        self.assertEqual(Desk().say(row="form"), ["0 0"])
