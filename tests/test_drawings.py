"""Point 36: sheets drawn as texts, and seen again."""

import random
import unittest

from squaresheet.drawings import drawn, seen
from squaresheet.errors import NoDrawing, SheetError
from squaresheet.sheets import sheet_of
from squaresheet.texts import read

from samples import ONE, THREE, block, great_sheets, slit, small_sheets

SIGNS = "0123456789abcdefghijklmnopqrstuvwxyz"
SMALL = list(small_sheets(4))
MANY = SMALL + great_sheets()
# Rows 0 3, 1 4, 2 5; above 0 1 2 are 1 2 3, above 3 4 5 are 4 5 0.
SIX = read("345012 123450")
SIX_DRAWN = [" 1 4 ", "|0|3|", " 2 5 ", "|1|4|", " 3 0 ", "|2|5|"]


def reckoned(sheet):
    """The drawing, sign by sign, going to the right from each least square that was not met yet."""
    texts, met = [], set()
    for first in range(len(sheet[0])):
        if first not in met:
            row, square = [], first
            while square not in met:
                met.add(square)
                row.append(square)
                square = sheet[0][square]
            texts.append(" " + " ".join(SIGNS[sheet[1][square]] for square in row) + " ")
            texts.append("|" + "|".join(SIGNS[square] for square in row) + "|")
    return texts


class Drawn(unittest.TestCase):
    def test_the_sheet_of_the_document(self):
        self.assertEqual(drawn(read("102 210")), [" 2 1 ", "|0|1|", " 0 ", "|2|"])

    def test_by_hand(self):
        self.assertEqual(drawn(ONE), [" 0 ", "|0|"])
        self.assertEqual(drawn(SIX), SIX_DRAWN)
        # The order is that of the row, not of the numbers.
        self.assertEqual(drawn(read("2310 3012")), [" 3 1 0 2 ", "|0|2|1|3|"])

    def test_signs_of_36_squares(self):
        self.assertEqual(drawn(block(36, 1)), [" " + " ".join(SIGNS) + " ", "|" + "|".join(SIGNS) + "|"])
        column = [text for k in range(36) for text in (" " + SIGNS[(k + 1) % 36] + " ", "|" + SIGNS[k] + "|")]
        self.assertEqual(drawn(block(1, 36)), column)

    def test_as_reckoned_another_way(self):
        for sheet in MANY:
            self.assertEqual(drawn(sheet), reckoned(sheet))


class Seen(unittest.TestCase):
    def refuse(self, rows):
        kept = list(rows)
        with self.subTest(rows=rows), self.assertRaises(SheetError) as caught:
            seen(rows)
        self.assertIs(caught.exception.__class__, NoDrawing)
        self.assertEqual(rows, kept)

    def test_what_is_drawn_is_seen(self):
        self.assertEqual(seen([" 2 1 ", "|0|1|", " 0 ", "|2|"]), THREE)
        self.assertEqual(seen([" 0 ", "|0|"]), ONE)
        for sheet in MANY:
            self.assertEqual(seen(reckoned(sheet)), sheet)
            self.assertEqual(seen(drawn(sheet)), sheet)

    def test_no_texts_at_all(self):
        self.refuse([])

    def test_empty_texts(self):
        for rows in ([""], ["", ""], ["", "", "", ""], [" ", "|"], [" ", "|", " 0 ", "|0|"], [" 0 ", "|0|", " ", "|"],
                     [" 0 ", "|0|", "", ""], ["", "", " 0 ", "|0|"], [" 0 ", "|0|", ""], ["  ", "||"]):
            self.refuse(rows)

    def test_a_text_left_out(self):
        for sheet in (ONE, THREE, SIX, block(6, 6)):
            for k in range(len(drawn(sheet))):
                rows = drawn(sheet)
                rows.pop(k)
                self.refuse(rows)

    def test_two_texts_left_out(self):
        for sheet in (ONE, THREE, SIX, block(6, 6)):
            for k in range(0, len(drawn(sheet)), 2):
                self.refuse(drawn(sheet)[:k] + drawn(sheet)[k + 2:])

    def test_a_text_told_twice(self):
        for sheet in (ONE, THREE, SIX):
            told = drawn(sheet)
            for k in range(len(told)):
                self.refuse(told[:k] + [told[k]] + told[k:])
                self.refuse(told + [told[k]])
            for k in range(0, len(told), 2):
                self.refuse(told[:k] + told[k:k + 2] + told[k:])
            self.refuse(told + told)

    def test_a_text_in_another_ones_place(self):
        for sheet in (ONE, THREE, SIX):
            told = drawn(sheet)
            for one in range(len(told)):
                for other in range(one):
                    # The texts of what is above, as long as one another, are looked at below.
                    if one % 2 or other % 2 or len(told[one]) != len(told[other]):
                        rows = list(told)
                        rows[one], rows[other] = rows[other], rows[one]
                        self.refuse(rows)
        self.refuse(["|0|", " 0 "])

    def test_what_is_above_exchanged_is_another_sheet_or_hangs_not_together(self):
        self.assertEqual(seen([" 2 0 ", "|0|1|", " 1 3 ", "|2|3|"]), read("1032 2013"))
        self.assertEqual(seen([" 1 3 ", "|0|1|", " 2 0 ", "|2|3|"]), read("1032 1320"))
        self.refuse([" 2 5 ", "|0|3|", " 1 4 ", "|1|4|", " 3 0 ", "|2|5|"])

    def test_rows_exchanged(self):
        for sheet in (THREE, SIX, block(4, 3), block(1, 36), slit(block(4, 2), 0, 2)):
            told = drawn(sheet)
            for one in range(0, len(told), 2):
                for other in range(0, one, 2):
                    rows = list(told)
                    rows[one:one + 2], rows[other:other + 2] = told[other:other + 2], told[one:one + 2]
                    self.refuse(rows)

    def test_a_row_told_from_another_square_on(self):
        for sheet in (THREE, SIX, block(4, 3), block(36, 1)):
            told = drawn(sheet)
            for k in range(0, len(told), 2):
                above, row = told[k], told[k + 1]
                for shift in range(2, len(row) - 1, 2):
                    turned = [above[shift:-1] + above[:shift] + " ", row[shift:-1] + row[:shift] + "|"]
                    self.refuse(told[:k] + turned + told[k + 2:])

    def test_a_sign_put_in_or_left_out_or_made_another_one(self):
        for sheet in (ONE, THREE, SIX, slit(block(4, 2), 0, 2)):
            told = drawn(sheet)
            for k, text in enumerate(told):
                for at in range(len(text) + 1):
                    for sign in " |09a\n_-A":
                        self.refuse(told[:k] + [text[:at] + sign + text[at:]] + told[k + 1:])
                        if at < len(text) and text[at] != sign:
                            self.refuse(told[:k] + [text[:at] + sign + text[at + 1:]] + told[k + 1:])
                    if at < len(text):
                        self.refuse(told[:k] + [text[:at] + text[at + 1:]] + told[k + 1:])

    def test_rows_that_hang_not_together(self):
        self.refuse([" 0 ", "|0|", " 1 ", "|1|"])
        self.refuse([" 1 0 ", "|0|1|", " 3 2 ", "|2|3|"])
        self.refuse([" 1 0 ", "|0|1|", " 2 ", "|2|"])

    def test_signs_of_no_square(self):
        for sign in ("A", "Z", "!", "-", "\u00e9", "\u0663", "\u00b2", "\t", "\n", "", "00", "-1", " ", "|"):
            self.refuse([" 0 ", "|" + sign + "|"])
            self.refuse([" " + sign + " ", "|0|"])
            self.refuse([" " + sign + " ", "|" + sign + "|"])
        for rows in ([" 1 ", "|1|"], [" z ", "|z|"], [" 1 0 ", "|0|2|"], [" 0 2 ", "|0|2|"], [" 2 0 ", "|0|1|"],
                     [" 1 2 ", "|1|2|"], [" 0 0 ", "|0|1|"], [" 0 1 ", "|0|0|"], [" 0 0 ", "|0|0|"]):
            self.refuse(rows)

    def test_rows_as_long_as_one_another(self):
        for rows in ([" 0 1 ", "|0|"], [" 0 ", "|0|1|"], [" 1 0", "|0|1|"], [" 1 0 ", "|0|1"], ["1 0 ", "|0|1|"],
                     [" 1 0 ", "0|1|"], [" 1 0  ", "|0|1||"], [" 1 0 ", "|0|1| "]):
            self.refuse(rows)

    def test_very_many_and_very_long_texts(self):
        self.refuse(["|0|"] * 300)
        self.refuse([" 0 ", "|0|"] * 150)
        self.refuse([" 0" * 999 + " ", "|0" * 999 + "|"])
        self.refuse([" " + " ".join(SIGNS + "0") + " ", "|" + "|".join(SIGNS + "0") + "|"])
        self.refuse([" " + " ".join(SIGNS + "A") + " ", "|" + "|".join(SIGNS + "A") + "|"])
        self.refuse(["x" * 2000, ""])

    def test_changed_at_random(self):
        drawings = {tuple(reckoned(sheet)): sheet for sheet in SMALL}
        source = random.Random(36)
        met = []
        for turn in range(20000):
            rows = list(source.choice(list(drawings)) if turn % 500 == 0 else rows)
            for change in range(source.randrange(1, 3)):
                k = source.randrange(len(rows))
                text = rows[k]
                at = source.randrange(len(text) + 1)
                rows[k] = source.choice((
                    text[:at] + source.choice(" |0123") + text[at + 1:], text[:at] + text[at + 1:],
                    text[:at] + source.choice(" |0123") + text[at:], source.choice(rows), text[::-1],
                ))
            # A drawing of five squares or more has at least 22 signs.
            if sum(map(len, rows)) < 22:
                sheet = drawings.get(tuple(rows))
                met.append(sheet is not None)
                if sheet is None:
                    self.refuse(rows)
                else:
                    self.assertEqual(seen(rows), sheet)
            if sum(map(len, rows)) > 30 or turn % 3 == 0:
                rows = list(source.choice(list(drawings)[:300]))
        self.assertGreater(met.count(False), 1000)
        self.assertGreater(met.count(True), 20)


class KeptApart(unittest.TestCase):
    def test_the_list_that_is_handed_in_stays_and_may_be_changed_later(self):
        rows = list(SIX_DRAWN)
        sheet = seen(rows)
        self.assertEqual(rows, SIX_DRAWN)
        rows.clear()
        self.assertEqual(sheet, SIX)
        self.assertEqual(seen(list(SIX_DRAWN)), SIX)

    def test_each_list_that_is_told_is_a_new_one(self):
        one, other = drawn(SIX), drawn(SIX)
        one.reverse()
        one.pop()
        self.assertEqual(other, SIX_DRAWN)
        self.assertEqual(drawn(SIX), SIX_DRAWN)

    def test_kinds(self):
        told = drawn(SIX)
        self.assertEqual([told.__class__] + [text.__class__ for text in told], [list] + [str] * 6)
        sheet = seen(told)
        self.assertEqual([sheet.__class__] + [row.__class__ for row in sheet], [tuple] * 3)
        self.assertEqual(sheet_of(*sheet), sheet)

    def test_the_arguments_have_their_names(self):
        self.assertEqual(seen(rows=drawn(sheet=SIX)), SIX)
