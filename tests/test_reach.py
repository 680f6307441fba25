"""Points 31 and 32, and 4 of them: all sheets reached from a sheet, and ways from one sheet to another one."""

import random
import unittest

from squaresheet.errors import SheetError, TooMany
from squaresheet.forms import form
from squaresheet.moving import moved, sheared, turned
from squaresheet.numberings import renumbered
from squaresheet.reach import reached, way
from squaresheet.sheets import sheet_of
from squaresheet.texts import read, shown

from samples import ONE, THREE, block, great_sheets, shuffled, slit, small_sheets

# One row of squares each; the numbers of sheets reached from them, some of them near 200.
ROWS = (
    ("123450 512340", 36), ("1234560 3056412", 144), ("12345670 12045673", 144), ("123456780 134567802", 108),
    ("1234567890 5678401239", 36), ("123456789ab0 89a3012b4567", 96),
)


def ell(length, height):
    """A row and a column that have square 0 in common."""
    squares = length + height - 1
    right = [(k + 1) % length for k in range(length)] + list(range(length, squares))
    column = [0] + list(range(length, squares))
    up = list(range(squares))
    for place, square in enumerate(column):
        up[square] = column[(place + 1) % height]
    return sheet_of(right, up)


def without_squares_of_primes(number):
    """The number squared times 1 - 1 / (p * p) for each prime p that divides it."""
    told = number * number
    for prime in range(2, number + 1):
        if number % prime == 0 and all(prime % less for less in range(2, prime)):
            told = told // (prime * prime) * (prime * prime - 1)
    return told


def sheets_of_blocks(number):
    """How many sheets one comes to from a row of so many squares with all corners plain."""
    told = number
    for prime in range(2, number + 1):
        if number % prime == 0 and all(prime % less for less in range(2, prime)):
            told = told // prime * (prime + 1)
    return told


def short_list(sheet):
    try:
        return reached(sheet, 40)
    except TooMany:
        return None


SHEETS = list(small_sheets(4))[::3] + great_sheets(30)
MANY = [(sheet, told) for sheet, told in zip(SHEETS, map(short_list, SHEETS)) if told]


class Reached(unittest.TestCase):
    def refuse(self, sheet, most):
        with self.assertRaises(SheetError) as caught:
            reached(sheet, most)
        self.assertIs(caught.exception.__class__, TooMany)

    def test_by_hand(self):
        self.assertEqual(reached(ONE, 1), [(ONE, "")])
        # The shear leads to another sheet and a second one back; this one turned is the third one.
        told = [(shown(sheet), word) for sheet, word in reached(THREE, 3)]
        self.assertEqual(told, [("021 102", ""), ("021 120", "s"), ("120 021", "st")])

    def test_blocks_that_stay_as_they_are(self):
        for length in range(1, 7):
            self.assertEqual(reached(block(length, length), 1), [(form(block(length, length)), "")])

    def test_it_begins_with_the_form_and_the_empty_word(self):
        for sheet, told in MANY:
            self.assertEqual(told[0], (form(sheet), ""))

    def check_order(self, told):
        """Going through the list tells the list: each new form is the next one, with its word."""
        met = 1
        for sheet, word in told:
            for letter, there in (("s", form(sheared(sheet))), ("t", form(turned(sheet)))):
                if there not in [other for other, its_word in told[:met]]:
                    self.assertEqual(told[met], (there, word + letter))
                    met += 1
        self.assertEqual(met, len(told))

    def test_the_order(self):
        self.assertGreater(len(MANY), 100)
        for sheet, told in MANY:
            self.check_order(told)

    def test_closed_and_no_form_twice(self):
        for sheet, told in MANY:
            listed = {there for there, word in told}
            self.assertEqual(len(listed), len(told))
            for there in listed:
                self.assertEqual(form(there), there)
                self.assertIn(form(sheared(there)), listed)
                self.assertIn(form(turned(there)), listed)

    def test_the_sheet_moved_by_a_word_has_the_form_beside_it(self):
        for sheet, told in MANY:
            for there, word in told:
                self.assertEqual(form(moved(sheet, word)), there)

    def test_words_lead_to_no_other_sheets(self):
        source = random.Random(31)
        for sheet, told in MANY:
            word = "".join(source.choice("st") for letter in range(30))
            self.assertIn(form(moved(sheet, word)), [there for there, its_word in told])

    def test_just_as_many_as_asked_for_and_one_more(self):
        for sheet, told in MANY:
            self.assertEqual(reached(sheet, len(told)), told)
            self.assertEqual(reached(sheet, len(told) + 1), told)
            if len(told) > 1:
                self.refuse(sheet, len(told) - 1)
                self.refuse(sheet, 1)

    def test_all_of_most(self):
        sheet, wanted = ell(3, 9), reached(ell(3, 9), 200)
        self.assertEqual(len(wanted), 180)
        for most in list(range(1, 180, 17)) + [178, 179]:
            self.refuse(sheet, most)
        for most in (180, 181, 199, 200):
            self.assertEqual(reached(sheet, most), wanted)
        self.check_order(wanted)

    def test_rows_where_the_list_is_long(self):
        for text, many in ROWS:
            told = reached(read(text), 200)
            self.assertEqual(len(told), many)
            self.assertEqual(reached(read(text), many), told)
            self.refuse(read(text), many - 1)
            self.check_order(told)
        for sheet in (slit(block(11, 1), 0, 1), slit(block(36, 1), 0, 5), slit(block(10, 1), 3, 4), ell(2, 10)):
            self.refuse(sheet, 200)

    def test_as_many_blocks_as_are_known(self):
        for number in range(1, 37):
            self.assertEqual(len(reached(block(number, 1), 200)), sheets_of_blocks(number))

    def test_as_many_sheets_with_one_corner_of_three_turns_as_are_known(self):
        for number in range(3, 11):
            known = without_squares_of_primes(number)
            for length in range(2, number):
                many = 3 * (number - 2) * known // 8
                if number % 2 == 1:
                    many = 3 * (number - 1 - 2 * (length % 2)) * known // 16
                if number == 3:
                    many = 3
                if many <= 200:
                    self.assertEqual(len(reached(ell(length, number + 1 - length), many)), many)
                    self.refuse(ell(length, number + 1 - length), many - 1)
                else:
                    self.refuse(ell(length, number + 1 - length), 200)

    def test_sheets_of_36_squares(self):
        for sheet in (block(36, 1), block(1, 36), block(18, 2), block(12, 3, 1), block(9, 4, 3)):
            self.check_order(reached(sheet, 200))

    def test_renumbered_the_list_is_the_same(self):
        source = random.Random(32)
        for sheet, told in MANY[::5]:
            self.assertEqual(reached(renumbered(sheet, shuffled(source, len(sheet[0]))), len(told)), told)


class Ways(unittest.TestCase):
    def test_by_hand(self):
        self.assertEqual(way(ONE, ONE, 1), "")
        self.assertEqual(way(THREE, THREE, 3), "")
        self.assertEqual(way(THREE, read("102 120"), 3), "s")
        self.assertEqual(way(THREE, read("120 102"), 3), "st")
        self.assertEqual(way(block(2, 1), block(1, 2), 3), "t")

    def test_the_word_beside_the_form(self):
        source = random.Random(33)
        for sheet, told in MANY[::4]:
            for there, word in told:
                other = renumbered(there, shuffled(source, len(there[0])))
                self.assertEqual(way(sheet, other, len(told)), word)
                self.assertEqual(form(moved(sheet, word)), form(other))

    def test_there_and_back(self):
        for sheet, told in MANY[::7]:
            for there, word in told:
                back = way(there, sheet, len(told))
                self.assertEqual(form(moved(there, back)), form(sheet))

    def test_none(self):
        for one, other, most in (
            (ONE, block(2, 1), 3), (THREE, block(3, 1), 4), (THREE, ONE, 3), (ell(2, 4), ell(3, 3), 18),
            (block(6, 6), block(36, 1), 72), (THREE, ell(2, 3), 9),
        ):
            self.assertIsNone(way(one, other, most))
            self.assertIsNone(way(other, one, most))

    def test_a_way_just_where_there_is_one_back(self):
        some = MANY[::9]
        for one, told in some:
            for other, others in some:
                most = max(len(told), len(others))
                forth, back = way(one, other, most), way(other, one, most)
                self.assertEqual(forth is None, back is None)
                self.assertEqual(forth is None, form(other) not in [there for there, word in told])

    def test_too_many(self):
        for one, other, most in (
            (THREE, THREE, 2), (THREE, THREE, 1), (THREE, read("102 120"), 2), (THREE, ONE, 2), (block(2, 1), ONE, 2),
            (ell(2, 10), ell(2, 10), 200), (ell(3, 9), ell(3, 9), 179), (slit(block(36, 1), 0, 5), ONE, 200),
        ):
            with self.assertRaises(SheetError) as caught:
                way(one, other, most)
            self.assertIs(caught.exception.__class__, TooMany)
        # Only the list of the first one counts.
        self.assertIsNone(way(ONE, ell(2, 10), 1))


class KeptApart(unittest.TestCase):
    def test_each_list_that_is_told_is_a_new_one(self):
        one, other = reached(THREE, 3), reached(THREE, 3)
        one.clear()
        self.assertEqual(len(other), 3)
        self.assertEqual(reached(THREE, 3), other)

    def test_kinds(self):
        told = reached(THREE, 200)
        self.assertIs(told.__class__, list)
        for pair in told:
            self.assertEqual([pair.__class__] + [thing.__class__ for thing in pair], [tuple, tuple, str])
            self.assertEqual([row.__class__ for row in pair[0]], [tuple, tuple])
        self.assertIs(way(THREE, THREE, 3).__class__, str)

    def test_asked_again_the_same_is_told(self):
        for sheet, told in MANY:
            self.assertEqual(reached(sheet, 40), told)

    def test_the_arguments_have_their_names(self):
        self.assertEqual(reached(sheet=THREE, most=3), reached(THREE, 3))
        self.assertEqual(way(one=THREE, other=sheared(THREE), most=3), "s")
