"""Points 26, 27 and 28, and 4 of them: sheets sheared, turned and moved by words, and places moved with them."""

import itertools
import random
import unittest
from fractions import Fraction

from squaresheet.corners import corners, counts, round_of, turns
from squaresheet.errors import NoPlace, NoWord, SheetError
from squaresheet.forms import form
from squaresheet.moving import moved, moved_place, sheared, turned
from squaresheet.parts import Part
from squaresheet.sheets import gone, sheet_of
from squaresheet.tables import led, table_of, word_of
from squaresheet.texts import read, shown
from squaresheet.walks import walk

from samples import ABSENT, ONE, THREE, block, great_sheets, place_of, plain_answer, slit, small_sheets

MANY = list(small_sheets(4)) + great_sheets()
HALF, THIRD = Fraction(1, 2), Fraction(1, 3)
WORDS = ("", "s", "t", "st", "ts", "sst", "tts", "ttt", "stst", "tsttss", "ttttt", "sssstst")
# Two words of one table each: four turns, six times st, a shear ahead of and behind two turns, a shear and one back.
ALIKE = (
    ("", "tttt"), ("", "stststststst"), ("tt", "ststst"), ("stt", "tts"), ("s" * 60 + "tt", "tt" + "s" * 60),
    ("", "stttstst"), ("", "tttststs"), ("ttt", "stststt"), ("t" * 1000, ""),
)
NO_WORDS = ("x", "S", "T", "r", "u", " ", "s ", " t", "sxt", "st\n", "0", "st" * 300 + ".", "\u0455", "-s",
            "s" * 1001, "t" * 1001, "st" * 501, "t" * 2000, "x" * 1001)


def reckoned(sheet, word):
    """The moved sheet by the paths that the document names, letter by letter."""
    squares = range(len(sheet[0]))
    for letter in word:
        paths = ("r", "lu") if letter == "s" else ("d", "r")
        sheet = tuple(tuple(gone(sheet, square, path) for square in squares) for path in paths)
    return sheet


def reckoned_place(sheet, square, x, y, word):
    for letter in word:
        if letter == "s":
            square, x = (square, x + y) if x + y < 1 else (sheet[0][square], x + y - 1)
        elif y == 0:
            square, x, y = gone(sheet, square, "d"), Fraction(0), x
        else:
            x, y = 1 - y, x
        sheet = reckoned(sheet, letter)
    return (square, x, y)


def place_moved(sheet, square, x, y, word):
    """The moved place with fractions in the place of its Parts."""
    return plain_answer(("there", moved_place(sheet, place_of(square, x, y), word)))[1]


def random_word(source, most):
    return "".join(source.choice("sst") for letter in range(source.randrange(most + 1)))


class Sheets(unittest.TestCase):
    def test_the_sheet_of_the_document(self):
        self.assertEqual(shown(sheared(read("102 210"))), "102 120")
        self.assertEqual(shown(turned(read("102 210"))), "210 102")
        self.assertEqual(shown(moved(read("102 210"), "s")), "102 120")
        self.assertEqual(shown(moved(read("102 210"), "t")), "210 102")

    def test_by_hand(self):
        self.assertEqual((sheared(ONE), turned(ONE)), (ONE, ONE))
        # Above 0 comes the one above its left square 3, above 1 that above 0, and so on.
        self.assertEqual(sheared(read("12304567 45670123")), read("12304567 74560123"))
        # At the right of 0 comes the one below it, 5; above it the one that was at its right, 1.
        self.assertEqual(turned(read("120453 345120")), read("534012 120453"))
        # A row turned stands upright, a column lies from right to left.
        self.assertEqual(turned(block(36, 1)), (block(36, 1)[1], block(36, 1)[0]))
        self.assertEqual(turned(read("012 120")), read("201 012"))

    def test_sheared_and_turned_as_reckoned_another_way(self):
        for sheet in MANY:
            self.assertEqual(sheared(sheet), reckoned(sheet, "s"))
            self.assertEqual(turned(sheet), reckoned(sheet, "t"))
            self.assertEqual(moved(sheet, "s"), sheared(sheet))
            self.assertEqual(moved(sheet, "t"), turned(sheet))

    def test_the_empty_word(self):
        for sheet in MANY:
            self.assertEqual(moved(sheet, ""), sheet)

    def test_letter_by_letter_the_first_one_first(self):
        self.assertEqual(moved(THREE, "st"), turned(sheared(THREE)))
        self.assertEqual(moved(THREE, "ts"), sheared(turned(THREE)))
        self.assertNotEqual(moved(THREE, "st"), moved(THREE, "ts"))
        self.assertEqual(moved(THREE, "sst"), turned(sheared(sheared(THREE))))
        self.assertEqual(moved(THREE, "tss"), sheared(sheared(turned(THREE))))

    def test_words_as_reckoned_another_way(self):
        source = random.Random(26)
        for sheet in MANY:
            word = random_word(source, 12)
            self.assertEqual(moved(sheet, word), reckoned(sheet, word), (sheet, word))

    def test_a_word_and_then_another_one(self):
        for sheet in great_sheets(20):
            for one, other in itertools.product(WORDS, WORDS):
                self.assertEqual(moved(sheet, one + other), moved(moved(sheet, one), other))

    def test_moved_sheets_are_sheets(self):
        for sheet in great_sheets():
            for word in WORDS:
                told = moved(sheet, word)
                self.assertEqual(sheet_of(*told), told)
                self.assertEqual([told.__class__, told[0].__class__, told[1].__class__], [tuple] * 3)

    def test_words_of_a_thousand_letters(self):
        sheet = great_sheets()[-1]
        for word in ("s" * 1000, "t" * 1000, "sst" * 333 + "s"):
            self.assertEqual(moved(sheet, word), reckoned(sheet, word))

    def test_no_word(self):
        for word in NO_WORDS:
            for sheet in (ONE, THREE, block(6, 6)):
                with self.subTest(word=word), self.assertRaises(SheetError) as caught:
                    moved(sheet, word)
                self.assertIs(caught.exception.__class__, NoWord)


class WordsOfOneTable(unittest.TestCase):
    def test_the_same_but_for_the_numbers(self):
        for one, other in ALIKE:
            self.assertEqual(table_of(one), table_of(other), (one, other))
            for sheet in MANY:
                self.assertEqual(form(moved(sheet, one)), form(moved(sheet, other)), (sheet, one, other))

    def test_all_short_words(self):
        first = {}
        words = ["".join(letters) for length in range(9) for letters in itertools.product("st", repeat=length)]
        pairs = [(word, first.setdefault(table_of(word), word)) for word in words]
        self.assertGreater(len([pair for pair in pairs if pair[0] != pair[1]]), 200)
        for sheet in (THREE, slit(block(4, 2), 0, 2), slit(block(3, 3, 1), 0, 4), read("1203 0132"), block(4, 1, 1)):
            for word, other in pairs:
                self.assertEqual(form(moved(sheet, word)), form(moved(sheet, other)), (sheet, word, other))

    def test_the_word_that_is_told_for_the_table(self):
        source = random.Random(27)
        for sheet in MANY:
            word = random_word(source, 8)
            self.assertEqual(form(moved(sheet, word)), form(moved(sheet, word_of(table_of(word)))), (sheet, word))

    def test_other_tables_may_lead_to_other_sheets(self):
        self.assertNotEqual(form(moved(THREE, "s")), form(THREE))
        self.assertNotEqual(form(moved(block(3, 1), "t")), form(block(3, 1)))

    def test_turns_and_counts_stay(self):
        for sheet in MANY:
            for word in WORDS:
                self.assertEqual(turns(moved(sheet, word)), turns(sheet))
                self.assertEqual(counts(moved(sheet, word)), counts(sheet))


class Places(unittest.TestCase):
    def check(self, sheet, square, x, y, word, told):
        self.assertEqual(place_moved(sheet, square, x, y, word), told, (sheet, square, x, y, word))

    def test_by_s(self):
        # Square 1 is at the right of 0, and 0 of 1.
        self.check(THREE, 0, THIRD, HALF, "s", (0, Fraction(5, 6), HALF))
        self.check(THREE, 0, HALF, HALF, "s", (1, 0, HALF))
        self.check(THREE, 1, HALF, HALF, "s", (0, 0, HALF))
        self.check(THREE, 2, HALF, HALF, "s", (2, 0, HALF))
        self.check(THREE, 0, Fraction(2, 3), HALF, "s", (1, Fraction(1, 6), HALF))
        self.check(THREE, 0, Fraction(3, 4), Fraction(3, 4), "s", (1, HALF, Fraction(3, 4)))
        self.check(THREE, 0, 0, HALF, "s", (0, HALF, HALF))
        self.check(THREE, 0, HALF, 0, "s", (0, HALF, 0))
        self.check(THREE, 0, 0, 0, "s", (0, 0, 0))
        near = Fraction(10 ** 12 - 2, 10 ** 12 - 1)
        self.check(THREE, 0, near, 1 - near, "s", (1, 0, 1 - near))
        self.check(THREE, 0, near, near, "s", (1, 2 * near - 1, near))

    def test_by_t(self):
        # Square 2 is below 0 and 0 below 2.
        self.check(THREE, 0, THIRD, Fraction(1, 4), "t", (0, Fraction(3, 4), THIRD))
        self.check(THREE, 0, 0, Fraction(1, 4), "t", (0, Fraction(3, 4), 0))
        self.check(THREE, 0, THIRD, 0, "t", (2, 0, THIRD))
        self.check(THREE, 2, THIRD, 0, "t", (0, 0, THIRD))
        self.check(THREE, 1, THIRD, 0, "t", (1, 0, THIRD))
        self.check(THREE, 0, 0, 0, "t", (2, 0, 0))
        # Below and above are not the same here.
        self.check(block(2, 3), 0, THIRD, 0, "t", (4, 0, THIRD))

    def test_by_words(self):
        self.check(THREE, 0, THIRD, HALF, "", (0, THIRD, HALF))
        # First s leads to (1, 0, 1/2), then t to (1, 1/2, 0).
        self.check(THREE, 0, HALF, HALF, "st", (1, HALF, 0))
        # First t leads to (0, 1/2, 1/2), then s over the right side, which was the lower one, into 2.
        self.check(THREE, 0, HALF, HALF, "ts", (2, 0, HALF))
        self.check(THREE, 0, THIRD, Fraction(1, 4), "tt", (0, Fraction(2, 3), Fraction(3, 4)))
        self.check(THREE, 0, THIRD, Fraction(1, 4), "tttt", (0, THIRD, Fraction(1, 4)))
        self.check(block(6, 6), 7, THIRD, Fraction(1, 4), "t" * 1000, (7, THIRD, Fraction(1, 4)))

    def test_as_reckoned_another_way(self):
        source = random.Random(28)
        values = (Fraction(0), Fraction(1, 4), THIRD, HALF, Fraction(2, 3), Fraction(3, 4))
        for sheet in MANY:
            for turn in range(3):
                square, x, y = source.randrange(len(sheet[0])), source.choice(values), source.choice(values)
                word = random_word(source, 9)
                self.check(sheet, square, x, y, word, reckoned_place(sheet, square, x, y, word))

    def test_all_places_of_a_grid_go_to_all_places_of_it(self):
        for sheet in (THREE, slit(block(4, 2), 0, 2), great_sheets()[-1]):
            grid = list(itertools.product(range(len(sheet[0])), *[[Fraction(k, 6) for k in range(6)]] * 2))
            for word in WORDS:
                self.assertEqual(sorted(place_moved(sheet, *place, word) for place in grid), sorted(grid))

    def test_great_bottoms_and_long_words(self):
        x, y = Fraction(10 ** 12 - 12, 10 ** 12 - 11), Fraction(1, 10 ** 12 - 1)
        sheet = great_sheets()[-2]
        for word in ("sst" * 333 + "s", "s" * 1000, "st" * 500):
            self.check(sheet, 3, x, y, word, reckoned_place(sheet, 3, x, y, word))

    def test_no_place(self):
        half = Part(1, 2)
        places = [(square, half, half) for square in ABSENT + (3, 4)]
        for part in (Part(1), Part(-1, 2), Part(-1), Part(3, 2), Part(2), Part(10 ** 11), Part(-1, 10 ** 11)):
            places += [(0, part, half), (0, half, part), (0, part, Part(0)), (2, Part(0), part), (1, part, part)]
        for place in places:
            for word in ("", "s", "t", "tts") + NO_WORDS:
                with self.subTest(square=place[0], word=word), self.assertRaises(SheetError) as caught:
                    moved_place(THREE, place, word)
                self.assertIs(caught.exception.__class__, NoPlace)

    def test_no_word(self):
        for word in NO_WORDS:
            for place in (place_of(0, HALF, THIRD), place_of(2, 0, 0)):
                with self.subTest(word=word), self.assertRaises(SheetError) as caught:
                    moved_place(THREE, place, word)
                self.assertIs(caught.exception.__class__, NoWord)


class MovedWalks(unittest.TestCase):
    def check(self, sheet, place, p, q, steps, word):
        """The walk on the moved sheet ends at the moved end, or at the same corner behind as many steps."""
        there = moved(sheet, word)
        p_there, q_there = led(table_of(word), p, q)
        if max(abs(p_there), abs(q_there)) > 60:
            return None
        told = walk(sheet, place, p, q, steps)
        moved_told = walk(there, moved_place(sheet, place, word), p_there, q_there, steps)
        if told[0] == "there":
            wanted = ("there", moved_place(sheet, told[1], word))
        else:
            corner = moved_place(sheet, (told[1], Part(0), Part(0)), word)[0]
            wanted = ("corner", min(round_of(there, corner)), told[2])
        self.assertEqual(plain_answer(moved_told), plain_answer(wanted), (sheet, word, p, q, steps))
        return told[0]

    def test_on_many_sheets(self):
        source = random.Random(4)
        met = []
        ways = [(p, q) for p in range(-4, 5) for q in range(-4, 5) if (p, q) != (0, 0)]
        for sheet in MANY:
            for turn in range(3):
                bottom = source.choice((2, 3, 4, 6, 997))
                x, y = Fraction(source.randrange(bottom), bottom), Fraction(source.randrange(bottom), bottom)
                place = place_of(source.randrange(len(sheet[0])), x, y)
                p, q = source.choice(ways)
                met.append(self.check(sheet, place, p, q, source.randrange(6), random_word(source, 7)))
        # Both ends came about often, so that neither is passed over.
        self.assertGreater(met.count("there"), 100)
        self.assertGreater(met.count("corner"), 100)

    def test_from_corners_and_sides(self):
        for sheet in (THREE, slit(block(4, 2), 0, 2), block(3, 2, 1), slit(block(3, 3, 1), 0, 4)):
            for square in range(len(sheet[0])):
                for x, y in ((0, 0), (HALF, 0), (0, HALF), (HALF, HALF)):
                    for word, (p, q) in itertools.product(("s", "t", "sts", "tss"), ((1, 0), (0, 1), (1, 1), (-1, 2))):
                        for steps in (0, 1, 3):
                            self.check(sheet, place_of(square, x, y), p, q, steps, word)

    def test_the_corners_are_the_moved_ones(self):
        for sheet in great_sheets(20):
            for word in WORDS:
                nought = Part(0)
                there = [
                    sorted(moved_place(sheet, (square, nought, nought), word)[0] for square in corner)
                    for corner in corners(sheet)
                ]
                self.assertEqual(sorted(there), sorted(sorted(corner) for corner in corners(moved(sheet, word))))


class KeptApart(unittest.TestCase):
    def test_what_is_handed_in_stays(self):
        x, y = Part(1, 3), Part(3, 4)
        for word in WORDS:
            moved_place(THREE, (0, x, y), word)
            self.assertEqual((x.top, x.bottom, y.top, y.bottom), (1, 3, 3, 4))
        self.assertEqual(THREE, ((1, 0, 2), (2, 1, 0)))

    def test_kinds(self):
        for word in WORDS:
            told = moved_place(THREE, place_of(0, THIRD, HALF), word)
            self.assertEqual((told.__class__, len(told)), (tuple, 3))
            self.assertEqual([thing.__class__ for thing in told], [int, Part, Part])

    def test_asked_again_the_same_is_told(self):
        for word in WORDS:
            for sheet in great_sheets(10):
                self.assertEqual(moved(sheet, word), moved(sheet, word))
                place = (0, THIRD, HALF)
                self.assertEqual(place_moved(sheet, *place, word), place_moved(sheet, *place, word))

    def test_the_arguments_have_their_names(self):
        self.assertEqual(sheared(sheet=THREE), sheared(THREE))
        self.assertEqual(turned(sheet=THREE), turned(THREE))
        self.assertEqual(moved(sheet=THREE, word="st"), moved(THREE, "st"))
        told = moved_place(sheet=THREE, place=place_of(0, HALF, HALF), word="s")
        self.assertEqual(plain_answer(("there", told))[1], (1, 0, HALF))
