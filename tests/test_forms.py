"""Points 13, 14 and 15, and 4 of them: forms, two sheets compared, own renumberings."""

import itertools
import random
import unittest

from squaresheet.forms import compared, form, own
from squaresheet.numberings import leads, numbering, renumbered
from squaresheet.texts import read

from samples import ONE, THREE, block, great_sheets, shuffled, slit, small_sheets

MANY = list(small_sheets(4)) + great_sheets()
# Eight squares, each of which looks the same from all: as many own renumberings, though no corner is plain.
EIGHT = read("12305674 47650321")


def all_renumberings(length):
    return [list(f) for f in itertools.permutations(range(length))]


class Forms(unittest.TestCase):
    def test_by_hand(self):
        # The numberings from 0, 1, 2 tell `102 210`, `102 021`, `021 102`.
        self.assertEqual(form(THREE), read("021 102"))
        self.assertEqual(form(ONE), ONE)
        # From each square of one row the same sheet comes.
        self.assertEqual(form(read("20413 01234")), read("12340 01234"))

    def test_the_least_of_the_numbered_sheets(self):
        for sheet in MANY:
            told = [renumbered(sheet, numbering(sheet, first)) for first in range(len(sheet[0]))]
            self.assertEqual(form(sheet), sorted(told)[0])

    def test_the_form_of_a_form_is_itself(self):
        for sheet in MANY:
            self.assertEqual(form(form(sheet)), form(sheet))

    def test_the_form_is_a_tuple_of_two_tuples(self):
        for sheet in MANY:
            self.assertIs(form(sheet).__class__, tuple)
            self.assertEqual([row.__class__ for row in form(sheet)], [tuple, tuple])

    def test_a_renumbered_sheet_has_the_same_form(self):
        source = random.Random(13)
        for sheet in MANY:
            self.assertEqual(form(renumbered(sheet, shuffled(source, len(sheet[0])))), form(sheet))

    def test_only_sheets_to_which_a_renumbering_leads_have_the_same_form(self):
        sheets = list(small_sheets(3))
        for one, other in itertools.product(sheets, sheets):
            same = any(leads(one, other, f) for f in all_renumberings(len(one[0])))
            self.assertEqual(form(one) == form(other), same)


class Compared(unittest.TestCase):
    def same(self, one, other):
        told = compared(one, other)
        self.assertIs(told.__class__, tuple)
        self.assertEqual((told[0], len(told)), ("same", 2))
        self.assertIs(told[1].__class__, list)
        self.assertTrue(leads(one, other, told[1]))

    def unlike(self, one, other):
        told = compared(one, other)
        self.assertIs(told.__class__, tuple)
        self.assertEqual(told[:3], ("unlike", form(one), form(other)))
        if len(one[0]) != len(other[0]):
            self.assertEqual(told[3:], (None,))
            return
        mine, others = [list(sheet[0]) + list(sheet[1]) for sheet in told[1:3]]
        place = told[3]
        self.assertEqual(mine[:place], others[:place])
        self.assertNotEqual(mine[place], others[place])
        self.assertEqual(len(told), 4)

    def test_a_sheet_and_the_same_one_renumbered(self):
        source = random.Random(14)
        for sheet in MANY:
            self.same(sheet, sheet)
            f = shuffled(source, len(sheet[0]))
            self.same(sheet, renumbered(sheet, f))
            self.same(renumbered(sheet, f), sheet)

    def test_where_just_one_renumbering_leads(self):
        sheet = slit(block(4, 3), 0, 1)
        self.assertEqual(len(own(sheet)), 1)
        f = [7, 2, 11, 0, 5, 9, 1, 3, 10, 4, 8, 6]
        self.assertEqual(compared(sheet, renumbered(sheet, f)), ("same", f))

    def test_unlike_ones_by_hand(self):
        row, column = read("120 012"), read("012 120")
        self.assertEqual(compared(row, column), ("unlike", row, column, 0))
        self.assertEqual(compared(column, row), ("unlike", column, row, 0))
        self.assertEqual(compared(column, THREE), ("unlike", column, read("021 102"), 1))

    def test_forms_that_part_in_the_up_row(self):
        # One row of four; above it it comes round with no shift, and with a shift of two.
        self.assertEqual(
            compared(block(4, 1), block(4, 1, 2)), ("unlike", read("1230 0123"), read("1230 2301"), 4)
        )
        # The same row of five, but for its last two squares, above which the other one is.
        self.assertEqual(
            compared(block(5, 1), slit(block(5, 1), 3, 4)), ("unlike", read("12340 01234"), read("12340 01243"), 8)
        )

    def test_unlike_many_squares(self):
        self.assertEqual(compared(ONE, THREE), ("unlike", ONE, read("021 102"), None))
        self.assertEqual(compared(THREE, ONE), ("unlike", read("021 102"), ONE, None))
        self.assertEqual(compared(block(35, 1), block(36, 1)), ("unlike", block(35, 1), block(36, 1), None))

    def test_all_pairs_of_small_sheets(self):
        sheets = list(small_sheets(3))
        for one, other in itertools.product(sheets, sheets):
            if any(leads(one, other, f) for f in all_renumberings(len(one[0]))):
                self.same(one, other)
            else:
                self.unlike(one, other)

    def test_great_sheets(self):
        sheets = great_sheets(20)
        for one, other in zip(sheets, sheets[1:]):
            if form(one) == form(other):
                self.same(one, other)
            else:
                self.unlike(one, other)


class Own(unittest.TestCase):
    def test_a_sheet_with_just_one(self):
        self.assertEqual(own(THREE), [[0, 1, 2]])
        self.assertEqual(own(ONE), [[0]])
        self.assertEqual(own(slit(block(6, 6), 0, 2)), [list(range(36))])

    def test_as_many_as_squares(self):
        self.assertEqual(own(block(4, 1)), [[0, 1, 2, 3], [1, 2, 3, 0], [2, 3, 0, 1], [3, 0, 1, 2]])
        self.assertEqual(len(own(block(6, 6, 2))), 36)
        self.assertEqual(len(own(EIGHT)), 8)

    def test_some_but_not_as_many_as_squares(self):
        # Two rows of two; above 0 is 0 itself, above 1 is 3.
        self.assertEqual(own(read("1032 0321")), [[0, 1, 2, 3], [2, 3, 0, 1]])

    def test_all_that_lead_from_a_small_sheet_to_itself(self):
        for sheet in small_sheets(4):
            self.assertEqual(own(sheet), [f for f in all_renumberings(len(sheet[0])) if leads(sheet, sheet, f)])

    def test_sorted_each_leading_their_number_dividing_that_of_the_squares(self):
        for sheet in MANY:
            told = own(sheet)
            self.assertEqual(told, sorted(told))
            self.assertEqual(told[0], list(range(len(sheet[0]))))
            self.assertTrue(all(leads(sheet, sheet, f) for f in told))
            self.assertEqual(len(sheet[0]) % len(told), 0)
            self.assertEqual(len({f[0] for f in told}), len(told))

    def test_one_that_leaves_a_square_leaves_all(self):
        for sheet in MANY:
            for f in own(sheet)[1:]:
                self.assertTrue(all(f[square] != square for square in range(len(f))))


class KeptApart(unittest.TestCase):
    def test_each_list_that_is_told_is_a_new_one(self):
        one, other = own(block(3, 1)), own(block(3, 1))
        for f in one:
            f.append(99)
        one.clear()
        self.assertEqual(other, [[0, 1, 2], [1, 2, 0], [2, 0, 1]])
        self.assertEqual(own(block(3, 1)), other)
        told, again = compared(THREE, THREE)[1], compared(THREE, THREE)[1]
        told.clear()
        self.assertEqual(again, [0, 1, 2])
        self.assertEqual(compared(THREE, THREE), ("same", [0, 1, 2]))

    def test_asked_again_the_same_is_told(self):
        for sheet in MANY:
            for ask in (form, own):
                self.assertEqual(ask(sheet), ask(sheet))
            self.assertEqual(compared(sheet, form(sheet)), compared(sheet, form(sheet)))

    def test_the_arguments_have_their_names(self):
        self.assertEqual(form(sheet=ONE), ONE)
        self.assertEqual(compared(one=ONE, other=ONE), ("same", [0]))
        self.assertEqual(own(sheet=ONE), [[0]])
