"""Points 33 and 34, and 4 of them: maps of sheets over sheets, and sheets folded."""

import itertools
import random
import unittest

from squaresheet.covers import folded, is_map, laid
from squaresheet.errors import NoSquare, SheetError
from squaresheet.forms import own
from squaresheet.moving import moved
from squaresheet.numberings import renumbered
from squaresheet.sheets import sheet_of, size
from squaresheet.texts import read

from samples import ABSENT, ONE, THREE, block, great_sheets, random_sheet, shuffled, slit, small_sheets

FOUR, TWO = block(4, 1), block(2, 1)
SMALL = list(small_sheets(3))


def fits(sheet, base, m):
    """Asked square by square, as the document words it."""
    return all(
        m[sheet[0][k]] == base[0][m[k]] and m[sheet[1][k]] == base[1][m[k]] for k in range(len(sheet[0]))
    )


def all_maps(sheet, base):
    numbers = range(len(base[0]))
    return [list(m) for m in itertools.product(numbers, repeat=len(sheet[0])) if fits(sheet, base, m)]


def partitions(number):
    """All ways to part the squares into heaps: for each square the number of its heap, in the order of first ones."""
    if number == 0:
        return [[]]
    return [
        heaps + [heap] for heaps in partitions(number - 1) for heap in range(max(heaps, default=-1) + 2)
    ]


def base_over(sheet, heaps):
    """The sheet of the heaps, or None where they don't make one."""
    rows = []
    for row in sheet:
        told = {}
        for k, heap in enumerate(heaps):
            if told.setdefault(heap, heaps[row[k]]) != heaps[row[k]]:
                return None
        rows.append([told[heap] for heap in range(len(told))])
    return sheet_of(*rows)


def cover(source, base, sheets):
    """As many copies of a sheet, sewn to one another at random, till all hang together."""
    length = size(base)
    while True:
        rows = []
        for row in base:
            lifted = [0] * (length * sheets)
            for square in range(length):
                order = shuffled(source, sheets)
                for copy in range(sheets):
                    lifted[copy * length + square] = order[copy] * length + row[square]
            rows.append(lifted)
        try:
            return sheet_of(*rows)
        except SheetError:
            continue


class Maps(unittest.TestCase):
    def test_by_hand(self):
        for m in ([0, 1, 0, 1], [1, 0, 1, 0]):
            self.assertIs(is_map(FOUR, TWO, m), True)
        for m in ([0, 0, 1, 1], [0, 1, 1, 0], [0, 0, 0, 0], [1, 1, 1, 1], [0, 1, 0, 0]):
            self.assertIs(is_map(FOUR, TWO, m), False)
        self.assertIs(is_map(THREE, ONE, [0, 0, 0]), True)
        self.assertIs(is_map(THREE, THREE, [0, 1, 2]), True)
        self.assertIs(is_map(THREE, THREE, [1, 0, 2]), False)
        self.assertIs(is_map(ONE, ONE, [0]), True)

    def test_the_right_row_alone_or_the_up_row_alone_is_not_enough(self):
        sheet = read("1032 2301")
        self.assertIs(is_map(sheet, read("10 01"), [0, 1, 0, 1]), True)
        self.assertIs(is_map(sheet, read("01 10"), [0, 0, 1, 1]), True)
        self.assertIs(is_map(sheet, read("10 10"), [0, 1, 0, 1]), False)
        self.assertIs(is_map(sheet, read("10 10"), [0, 0, 1, 1]), False)
        self.assertIs(is_map(sheet, read("10 10"), [0, 1, 1, 0]), True)

    def test_too_many_or_too_few_numbers(self):
        for m in ([], [0], [0, 1], [0, 1, 0], [0, 1, 0, 1, 0], [0, 1, 0, 1, 0, 1], [0, 1] * 150):
            self.assertIs(is_map(FOUR, TWO, m), False)
        for m in ([], [0, 0], [0] * 300):
            self.assertIs(is_map(ONE, ONE, m), False)

    def test_numbers_that_are_no_square_of_the_base(self):
        for number in ABSENT + (2, 3, 4):
            for m in ([number, 1, 0, 1], [0, number, 0, 1], [0, 1, 0, number], [number] * 4):
                self.assertIs(is_map(FOUR, TWO, m), False)
            self.assertIs(is_map(ONE, ONE, [number]), False)
        # Counted from the end of the base these would be a map.
        self.assertIs(is_map(FOUR, TWO, [0, -1, 0, -1]), False)
        self.assertIs(is_map(FOUR, TWO, [-2, -1, -2, -1]), False)

    def test_all_lists_on_small_sheets(self):
        for sheet, base in itertools.product(SMALL, SMALL):
            for m in itertools.product(range(len(base[0])), repeat=len(sheet[0])):
                self.assertIs(is_map(sheet, base, list(m)), fits(sheet, base, m))

    def test_own_renumberings_are_the_maps_of_a_sheet_over_itself(self):
        for sheet in SMALL:
            self.assertEqual(all_maps(sheet, sheet), own(sheet))
            for f in own(sheet):
                self.assertIs(is_map(sheet, sheet, f), True)


class Laid(unittest.TestCase):
    def test_by_hand(self):
        self.assertEqual(laid(FOUR, TWO), [0, 1, 0, 1])
        self.assertEqual(laid(THREE, ONE), [0, 0, 0])
        self.assertEqual(laid(THREE, THREE), [0, 1, 2])
        self.assertEqual(laid(block(6, 4), block(3, 2)), [0, 1, 2, 0, 1, 2, 3, 4, 5, 3, 4, 5] * 2)
        # Square 0 of the base is not under square 0: the row of two squares is that of 1 and 2.
        self.assertEqual(laid(THREE, read("021 120")), None)
        self.assertEqual(laid(THREE, renumbered(THREE, [2, 0, 1])), [2, 0, 1])

    def test_none(self):
        for sheet, base in ((ONE, TWO), (TWO, FOUR), (FOUR, block(1, 2)), (FOUR, block(3, 1)), (THREE, TWO),
                            (block(6, 6), slit(block(3, 3), 0, 1)), (block(36, 1), block(24, 1)), (FOUR, THREE)):
            self.assertIsNone(laid(sheet, base))

    def test_the_one_that_gives_square_0_the_least_square(self):
        for sheet, base in itertools.product(list(small_sheets(4))[::5], SMALL):
            maps = all_maps(sheet, base)
            self.assertEqual(laid(sheet, base), min(maps, key=lambda m: m[0]) if maps else None, (sheet, base))
        met = [laid(sheet, base)[0] for sheet, base in itertools.product(SMALL, SMALL) if laid(sheet, base)]
        self.assertGreater(sum(first > 0 for first in met), 10)

    def test_covers_of_many_sheets(self):
        source = random.Random(33)
        for base in list(small_sheets(3)) + [random_sheet(source, length) for length in range(4, 13)]:
            for sheets in (1, 2, 3):
                sheet = cover(source, base, sheets)
                f = shuffled(source, size(sheet))
                m = laid(renumbered(sheet, f), base)
                self.assertIs(fits(renumbered(sheet, f), base, m), True)
                for square in range(size(base)):
                    self.assertEqual(m.count(square), sheets)

    def test_moved_by_the_same_word_a_map_stays_one(self):
        source = random.Random(34)
        for base in [random_sheet(source, length) for length in range(2, 13)]:
            sheet = cover(source, base, 3)
            m = laid(sheet, base)
            for word in ("s", "t", "sst", "tsts", "ssttsts"):
                self.assertIs(is_map(moved(sheet, word), moved(base, word), m), True)
                self.assertIsNotNone(laid(moved(sheet, word), moved(base, word)))


class Folded(unittest.TestCase):
    def test_by_hand(self):
        self.assertEqual(folded(FOUR, 0, 2), (TWO, [0, 1, 0, 1]))
        self.assertEqual(folded(FOUR, 1, 3), (TWO, [0, 1, 0, 1]))
        self.assertEqual(folded(FOUR, 0, 1), (ONE, [0, 0, 0, 0]))
        self.assertEqual(folded(FOUR, 3, 0), (ONE, [0, 0, 0, 0]))
        self.assertEqual(folded(block(6, 1), 1, 4), (block(3, 1), [0, 1, 2, 0, 1, 2]))
        self.assertEqual(folded(THREE, 0, 1), (ONE, [0, 0, 0]))
        self.assertEqual(folded(block(6, 6), 0, 18), (block(6, 3), list(range(18)) * 2))

    def test_on_one_square_twice(self):
        for sheet in SMALL + great_sheets(20):
            for square in range(size(sheet)):
                self.assertEqual(folded(sheet, square, square), (sheet, list(range(size(sheet)))))

    def test_the_squares_of_the_base_are_numbered_by_the_least_ones_over_them(self):
        # Square 2 is right of 0 and 1 right of 2: over the base's squares lie 0 and 1, 2 and 3.
        self.assertEqual(folded(read("2310 0123"), 0, 1), (read("10 01"), [0, 0, 1, 1]))
        # In the row 0 3 1 2 4 5 each two come together that are three apart: 0 and 2, 3 and 4, 1 and 5.
        self.assertEqual(folded(read("324150 012345"), 5, 1), (read("201 012"), [0, 1, 0, 2, 2, 1]))

    def test_as_many_as_needs_be_and_no_more(self):
        for sheet in list(small_sheets(4))[::3] + [block(6, 1), block(3, 2), block(2, 3, 1), slit(block(3, 2), 0, 4)]:
            fit = [heaps for heaps in partitions(size(sheet)) if base_over(sheet, heaps)]
            for one, other in itertools.product(range(size(sheet)), repeat=2):
                joining = [heaps for heaps in fit if heaps[one] == heaps[other]]
                finest = max(joining, key=max)
                self.assertEqual(folded(sheet, one, other), (base_over(sheet, finest), finest))

    def check(self, sheet, one, other):
        base, m = folded(sheet, one, other)
        self.assertEqual(sheet_of(*base), base)
        self.assertIs(fits(sheet, base, m), True)
        self.assertEqual(m[one], m[other])
        first = [m.index(square) for square in range(size(base))]
        self.assertEqual(first, sorted(first))
        return base, m

    def test_whatever_map_gives_both_squares_the_same_one(self):
        source = random.Random(35)
        several = 0
        for base in [random_sheet(source, length) for length in (1, 2, 2, 3, 3, 4, 5, 6, 7, 9, 12)]:
            for sheets in (2, 3):
                f = shuffled(source, size(base) * sheets)
                sheet = renumbered(cover(source, base, sheets), f)
                over = laid(sheet, base)
                for one, other in itertools.product(range(size(sheet)), repeat=2):
                    if over[one] == over[other]:
                        told, m = self.check(sheet, one, other)
                        # Each two that are folded together are over one square of the base too.
                        self.assertEqual(len(set(zip(m, over))), size(told))
                        several += 1 < size(told) < size(sheet)
        self.assertGreater(several, 50)

    def test_on_great_sheets(self):
        source = random.Random(36)
        for sheet in great_sheets():
            for turn in range(4):
                self.check(sheet, source.randrange(size(sheet)), source.randrange(size(sheet)))

    def test_in_either_order(self):
        for sheet in (FOUR, THREE, block(6, 4), block(12, 3, 2), slit(block(4, 2), 0, 2)):
            for one, other in itertools.combinations(range(size(sheet)), 2):
                self.assertEqual(folded(sheet, one, other), folded(sheet, other, one))

    def test_no_square(self):
        for sheet in (ONE, THREE, block(6, 6)):
            for absent in ABSENT + (size(sheet), size(sheet) + 1):
                for one, other in ((absent, 0), (0, absent), (absent, absent), (absent, -absent)):
                    with self.subTest(one=one, other=other), self.assertRaises(SheetError) as caught:
                        folded(sheet, one, other)
                    self.assertIs(caught.exception.__class__, NoSquare)


class KeptApart(unittest.TestCase):
    def test_lists_that_are_handed_in_stay(self):
        for m in ([0, 1, 0, 1], [1, 1, 1, 1], [0, 1, 0], [0, -1, 5, 10 ** 59], []):
            kept = list(m)
            is_map(FOUR, TWO, m)
            self.assertEqual(m, kept)

    def test_each_list_that_is_told_is_a_new_one(self):
        for ask in (lambda: laid(FOUR, TWO), lambda: folded(FOUR, 0, 2)[1], lambda: folded(TWO, 1, 1)[1]):
            one, other = ask(), ask()
            kept = list(other)
            one.reverse()
            one.append(99)
            self.assertEqual(other, kept)
            self.assertEqual(ask(), kept)

    def test_kinds(self):
        self.assertIs(laid(FOUR, TWO).__class__, list)
        base, m = told = folded(block(6, 4), 0, 3)
        self.assertEqual([told.__class__, base.__class__, m.__class__], [tuple, tuple, list])
        self.assertEqual([row.__class__ for row in base], [tuple, tuple])

    def test_asked_again_the_same_is_told(self):
        for sheet in great_sheets(10):
            self.assertEqual(folded(sheet, 0, 2), folded(sheet, 0, 2))
            self.assertEqual(laid(sheet, sheet), laid(sheet, sheet))

    def test_the_arguments_have_their_names(self):
        self.assertIs(is_map(sheet=FOUR, base=TWO, m=[0, 1, 0, 1]), True)
        self.assertEqual(laid(sheet=FOUR, base=TWO), [0, 1, 0, 1])
        self.assertEqual(folded(sheet=FOUR, one=0, other=2), (TWO, [0, 1, 0, 1]))
