"""Points 2, 3, 5 and 6: rows taken as a sheet or refused, and groups."""

import itertools
import unittest

from squaresheet.errors import NoSheet, NotTogether, SheetError
from squaresheet.sheets import back_row, groups, sheet_of, size

# Each is put among the numbers of a row that else would do.
STRANGE = (True, False, "0", "a", "", None, [], [0], (), (0,), {}, 0.0, 1.0, -1, -2, 4, 5, 36, 10 ** 59, -(10 ** 59))

WRONG_PAIRS = (
    ([], []), ((), ()), ([], [0]), ([0], []), ([0], [0, 1]), ([0, 1], [0]), ([0, 1, 2], [1, 0]),
    ([0, 0], [0, 1]), ([0, 1], [1, 1]), ([1, 2, 1], [0, 1, 2]), ([2, 1, 0], [0, 2, 2]),
    ([1, 2], [0, 1]), ([0, 1], [1, 2]), ([1], [1]), ([-1], [0]), ([0], [-1]), ([0, -1], [0, 1]),
    (list(range(37)), list(range(37))), (list(range(36)), list(range(37))), (list(range(300)), list(range(300))),
    ([1, 2, 3], [3, 1, 2]), ([True, 0], [0, 1]), ([False], [0]), ([0], [False]), ([1, 0], [0, True]),
)


def all_pairs(most):
    for length in range(1, most + 1):
        rows = list(itertools.permutations(range(length)))
        yield from itertools.product(rows, rows)


def merged_groups(right, up):
    """The groups, reckoned another way: each square begins alone, and neighbours are thrown together."""
    label = list(range(len(right)))
    for square, near in list(enumerate(right)) + list(enumerate(up)):
        old, new = label[near], label[square]
        label = [new if name == old else name for name in label]
    parts = {}
    for square, name in enumerate(label):
        parts.setdefault(name, []).append(square)
    return sorted(parts.values())


def ring(length):
    return list(range(1, length)) + [0]


class TakenAsSheet(unittest.TestCase):
    def test_lists_and_tuples_and_one_of_each(self):
        told = ((1, 0, 2), (2, 1, 0))
        for one in (list, tuple):
            for other in (list, tuple):
                with self.subTest(one=one, other=other):
                    self.assertEqual(sheet_of(one(told[0]), other(told[1])), told)

    def test_a_sheet_is_a_tuple_of_two_tuples_of_whole_numbers(self):
        sheet = sheet_of([1, 0, 2], [2, 1, 0])
        self.assertIs(type(sheet), tuple)
        self.assertEqual([type(row) for row in sheet], [tuple, tuple])
        self.assertEqual([type(square) for row in sheet for square in row], [int] * 6)

    def test_one_square(self):
        self.assertEqual(sheet_of([0], [0]), ((0,), (0,)))
        self.assertEqual(size(sheet_of((0,), (0,))), 1)

    def test_thirty_six_squares(self):
        still = list(range(36))
        for right, up in ((ring(36), still), (still, ring(36)), (ring(36), ring(36))):
            sheet = sheet_of(right, up)
            self.assertEqual(sheet, (tuple(right), tuple(up)))
            self.assertEqual(size(sheet), 36)

    def test_the_arguments_have_their_names(self):
        sheet = sheet_of(right=[1, 0], up=[0, 1])
        self.assertEqual(sheet, ((1, 0), (0, 1)))
        self.assertEqual(size(sheet=sheet), 2)
        self.assertEqual(back_row(row=(1, 0)), (1, 0))
        self.assertEqual(groups(right=[1, 0], up=[0, 1]), [[0, 1]])

    def test_all_small_rows(self):
        for right, up in all_pairs(4):
            parts = merged_groups(right, up)
            with self.subTest(right=right, up=up):
                if len(parts) == 1:
                    self.assertEqual(sheet_of(right, up), (right, up))
                else:
                    with self.assertRaises(NotTogether) as caught:
                        sheet_of(right, up)
                    self.assertEqual(caught.exception.square, min(set(range(len(right))) - set(parts[0])))


class Refused(unittest.TestCase):
    def refuse(self, right, up):
        for ask in (sheet_of, groups):
            with self.subTest(ask=ask, right=right, up=up), self.assertRaises(SheetError) as caught:
                ask(right, up)
            self.assertIs(type(caught.exception), NoSheet)

    def test_wrong_lengths_numbers_and_twice(self):
        for right, up in WRONG_PAIRS:
            self.refuse(right, up)
            self.refuse(tuple(right), tuple(up))

    def test_strange_things_at_each_place_of_either_row(self):
        for thing in STRANGE:
            for place in range(4):
                row = ring(4)
                row[place] = thing
                self.refuse(row, [0, 1, 2, 3])
                self.refuse([0, 1, 2, 3], row)
                self.refuse(tuple(row), tuple(ring(4)))

    def test_truths_in_the_place_of_their_numbers(self):
        self.refuse([True, False], [False, True])
        self.refuse([0, True, 2], [2, 1, 0])
        self.refuse([1, 0], [False, 1])

    def test_rows_of_strange_things_alone(self):
        for thing in STRANGE:
            self.refuse([thing, thing], [thing, thing])

    def test_no_sheet_comes_ahead_of_not_together(self):
        for thing in STRANGE:
            self.refuse([0, 1, 2, thing], [0, 1, 2, 3])
            self.refuse([0, 1, 2, 3], [0, 1, 2, thing])
        self.refuse([0, 1, 1], [0, 1, 2])
        self.refuse([0, 1, 2], [0, 1])
        self.refuse(list(range(37)), list(range(37)))

    def test_not_together_tells_the_least_square_out_of_reach(self):
        cases = (
            ([0, 1], [0, 1], 1),
            ([0, 1, 2], [2, 1, 0], 1),
            ([1, 0, 2, 3], [0, 1, 3, 2], 2),
            ([1, 0, 3, 2], [1, 0, 2, 3], 2),
            ([1, 2, 0, 3], [0, 1, 2, 3], 3),
            ([3, 1, 2, 0], [0, 2, 1, 3], 1),
            (ring(35) + [35], list(range(36)), 35),
            ([0] + [1 + near for near in ring(35)], list(range(36)), 1),
        )
        for right, up, square in cases:
            with self.subTest(right=right, up=up):
                with self.assertRaises(NotTogether) as caught:
                    sheet_of(right, up)
                self.assertEqual(caught.exception.square, square)
                self.assertIs(type(caught.exception.square), int)


class BackRow(unittest.TestCase):
    def test_at_each_square_the_one_at_which_it_stands(self):
        self.assertEqual(back_row((1, 2, 0)), (2, 0, 1))
        self.assertEqual(back_row((0,)), (0,))
        self.assertEqual(back_row(tuple(ring(36))), (35,) + tuple(range(35)))

    def test_all_small_rows(self):
        for length in range(1, 6):
            for row in itertools.permutations(range(length)):
                back = back_row(row)
                self.assertIs(type(back), tuple)
                self.assertEqual([back[row[square]] for square in range(length)], list(range(length)))
                self.assertEqual(back_row(back), row)


class Groups(unittest.TestCase):
    def test_rows_that_hang_together(self):
        self.assertEqual(groups([0], [0]), [[0]])
        self.assertEqual(groups((1, 0, 2), (2, 1, 0)), [[0, 1, 2]])
        self.assertEqual(groups(ring(36), list(range(36))), [list(range(36))])

    def test_rows_that_do_not(self):
        self.assertEqual(groups([0, 1, 2], [2, 1, 0]), [[0, 2], [1]])
        self.assertEqual(groups([3, 1, 2, 0], (0, 2, 1, 3)), [[0, 3], [1, 2]])
        self.assertEqual(groups([5, 3, 2, 1, 4, 0], [0, 1, 4, 3, 2, 5]), [[0, 5], [1, 3], [2, 4]])
        self.assertEqual(groups(list(range(36)), list(range(36))), [[k] for k in range(36)])

    def test_all_small_rows(self):
        for right, up in all_pairs(4):
            told = groups(right, up)
            self.assertEqual(told, merged_groups(right, up))
            self.assertEqual([type(group) for group in told], [list] * len(told))


class KeptApart(unittest.TestCase):
    def test_what_is_handed_in_stays_as_it_was(self):
        right, up = [1, 0, 2], [2, 1, 0]
        sheet_of(right, up)
        groups(right, up)
        back_row(right)
        self.assertEqual((right, up), ([1, 0, 2], [2, 1, 0]))

    def test_what_is_refused_stays_as_it_was(self):
        for right, up in (([0, 1, 2], [2, 1, 0]), ([2, 2, 1], [0, 1, 2]), ([2, 1, 0], [None, "a", []])):
            kept = (list(right), list(up))
            with self.assertRaises(SheetError):
                sheet_of(right, up)
            self.assertEqual((right, up), kept)

    def test_later_changes_of_a_list_handed_in_change_nothing(self):
        right, up = [1, 0, 2], [2, 1, 0]
        sheet, told, back = sheet_of(right, up), groups(right, up), back_row(right)
        right.reverse()
        up.clear()
        self.assertEqual(sheet, ((1, 0, 2), (2, 1, 0)))
        self.assertEqual(told, [[0, 1, 2]])
        self.assertEqual(back, (1, 0, 2))

    def test_each_list_that_is_told_is_a_new_one(self):
        right, up = (0, 1, 2), (2, 1, 0)
        one, other = groups(right, up), groups(right, up)
        self.assertIsNot(one, other)
        for group in one:
            group.append(99)
        one.clear()
        self.assertEqual(other, [[0, 2], [1]])
        self.assertEqual(groups(right, up), [[0, 2], [1]])

    def test_asked_again_the_same_is_told(self):
        for right, up in all_pairs(3):
            self.assertEqual(groups(right, up), groups(list(right), list(up)))
            if len(groups(right, up)) == 1:
                self.assertEqual(sheet_of(right, up), sheet_of(list(right), list(up)))
