"""Points 24 and 25: tables and words."""

import itertools
import unittest

from squaresheet.errors import NoTable, NoWord, SheetError
from squaresheet.tables import back_table, led, product, table_of, word_of

STILL, SHEAR, TURN = (1, 0, 0, 1), (1, 1, 0, 1), (0, -1, 1, 0)
TABLES = (
    STILL, SHEAR, TURN, (1, -1, 0, 1), (0, 1, -1, 0), (-1, 0, 0, -1), (2, 1, 1, 1), (3, 5, 4, 7), (-3, 5, 4, -7),
    (60, 59, 1, 1), (1, 10 ** 29, 0, 1), (10 ** 29, -1, 1, 0), (1, 0, -(10 ** 58), 1),
)
POINTS = ((1, 0), (0, 1), (0, 0), (3, -5), (-60, 59), (10 ** 29, -(10 ** 29) - 7))
NO_TABLES = (
    (1, 0, 0, 0), (0, 0, 0, 0), (1, 1, 1, 1), (0, 1, 1, 0), (-1, 0, 0, 1), (1, 0, 0, -1), (2, 0, 0, 1), (2, 0, 0, 2),
    (1, 0, 0), (1, 0, 0, 1, 0), (), (1,), (1, 1), (1, 0, 0, 1, 1, 0, 0, 1),
    ("1", 0, 0, 1), (1, "0", 0, 1), (1, 0, None, 1), (1, 0, 0, (1,)), (1, 0, 0, []), (1.0, 0, 0, 1), (1, 0.0, 0, 1),
    (True, 0, 0, 1), (1, False, 0, 1), (1, 0, 0, True), (1, 0, False, 1),
    [1, 0, 0, 1], [1, 0, 0], "1001", "stst", "", None, 1, 1001, {}, {1: 1},
    (10 ** 29, 10 ** 29, 10 ** 29, 10 ** 29), (61, 0, 0, 61),
)


def small_tables(most):
    """All tables with numbers from -most to most."""
    numbers = range(-most, most + 1)
    for a, c in itertools.product(numbers, numbers):
        for d in numbers:
            if c == 0:
                yield from ((a, b, c, d) for b in numbers if a * d == 1)
            elif (a * d - 1) % c == 0 and abs((a * d - 1) // c) <= most:
                yield (a, (a * d - 1) // c, c, d)


def reckoned(word):
    """The table of a word, from where its letters lead (1, 0) and (0, 1) one after another."""
    one, other = (1, 0), (0, 1)
    for letter in word:
        if letter == "s":
            one, other = (one[0] + one[1], one[1]), (other[0] + other[1], other[1])
        else:
            one, other = (-one[1], one[0]), (-other[1], other[0])
    return (one[0], other[0], one[1], other[1])


class Tables(unittest.TestCase):
    def refuse(self, ask):
        for thing in NO_TABLES:
            with self.subTest(thing=thing), self.assertRaises(SheetError) as caught:
                ask(thing)
            self.assertIs(caught.exception.__class__, NoTable)

    def test_led(self):
        self.assertEqual(led(SHEAR, 3, 5), (8, 5))
        self.assertEqual(led(TURN, 3, 5), (-5, 3))
        self.assertEqual(led((2, 1, 1, 1), 3, 5), (11, 8))
        self.assertEqual(led((3, 5, 4, 7), 1, -2), (-7, -10))
        self.assertEqual(led((3, 5, 4, 7), 0, 0), (0, 0))
        self.assertEqual(led(STILL, 10 ** 59, -(10 ** 59)), (10 ** 59, -(10 ** 59)))

    def test_product_the_second_first_and_then_the_first(self):
        self.assertEqual(product(SHEAR, TURN), (1, -1, 1, 0))
        self.assertEqual(product(TURN, SHEAR), (0, -1, 1, 1))
        for one, other in itertools.product(TABLES, TABLES):
            for point in POINTS:
                self.assertEqual(led(product(one, other), *point), led(one, *led(other, *point)))

    def test_the_product_is_a_table(self):
        for one, other in itertools.product(TABLES, TABLES):
            a, b, c, d = product(one, other)
            self.assertEqual(a * d - b * c, 1)
            self.assertIs(product(one, other).__class__, tuple)

    def test_turned_round(self):
        self.assertEqual(back_table((3, 5, 4, 7)), (7, -5, -4, 3))
        self.assertEqual(back_table(TURN), (0, 1, -1, 0))
        for table in TABLES:
            self.assertEqual(product(table, back_table(table)), STILL)
            self.assertEqual(product(back_table(table), table), STILL)
            self.assertEqual(back_table(back_table(table)), table)
            for point in POINTS:
                self.assertEqual(led(back_table(table), *led(table, *point)), point)

    def test_what_is_no_table(self):
        self.refuse(lambda thing: led(thing, 1, 0))
        self.refuse(lambda thing: product(thing, STILL))
        self.refuse(lambda thing: product(STILL, thing))
        self.refuse(lambda thing: product(thing, thing))
        self.refuse(back_table)
        self.refuse(word_of)

    def test_the_arguments_have_their_names(self):
        self.assertEqual(table_of(word="s"), SHEAR)
        self.assertEqual(product(one=SHEAR, other=STILL), SHEAR)
        self.assertEqual(back_table(table=STILL), STILL)
        self.assertEqual(led(table=SHEAR, p=1, q=1), (2, 1))
        self.assertEqual(table_of(word_of(table=SHEAR)), SHEAR)


class Words(unittest.TestCase):
    def test_tables_of_words(self):
        for word, table in (
            ("", STILL), ("s", SHEAR), ("t", TURN), ("ss", (1, 2, 0, 1)), ("tt", (-1, 0, 0, -1)), ("tttt", STILL),
            ("ttt", (0, 1, -1, 0)), ("ststst", (-1, 0, 0, -1)), ("s" * 1000, (1, 1000, 0, 1)), ("t" * 1000, STILL),
        ):
            with self.subTest(word=word):
                self.assertEqual(table_of(word), table)

    def test_the_first_letter_first(self):
        self.assertEqual(table_of("st"), (0, -1, 1, 1))
        self.assertEqual(table_of("ts"), (1, -1, 1, 0))
        self.assertEqual(table_of("sst"), (0, -1, 1, 2))

    def test_all_short_words(self):
        for length in range(9):
            for letters in itertools.product("st", repeat=length):
                self.assertEqual(table_of("".join(letters)), reckoned(letters))

    def test_a_word_and_then_another_one(self):
        words = ("", "s", "t", "sst", "tsttss", "ststtsssst" * 50)
        for one, other in itertools.product(words, words):
            self.assertEqual(table_of(one + other), product(table_of(other), table_of(one)))

    def test_long_words(self):
        for word in ("sst" * 333 + "s", "ssttt" * 200, "st" * 500, "sts" * 333):
            self.assertEqual(table_of(word), reckoned(word))

    def test_another_letter(self):
        for word in ("x", "S", "T", "r", " ", "s ", " t", "sxt", "st\n", "0", "st" * 300 + ".", "\u0455", "-s"):
            with self.subTest(word=word), self.assertRaises(NoWord):
                table_of(word)

    def test_more_than_a_thousand_letters(self):
        for word in ("s" * 1001, "t" * 1001, "st" * 501, "t" * 2000, "x" * 1001):
            with self.subTest(length=len(word)), self.assertRaises(NoWord):
                table_of(word)

    def check_word(self, table):
        word = word_of(table)
        self.assertIs(word.__class__, str)
        self.assertLessEqual(set(word), {"s", "t"})
        self.assertLessEqual(len(word), 1000)
        self.assertEqual(reckoned(word), table)

    def test_words_of_all_small_tables(self):
        for table in small_tables(60):
            self.check_word(table)

    def test_words_have_this_very_table(self):
        for table in small_tables(9):
            self.assertEqual(table_of(word_of(table)), table)
            self.assertEqual(word_of(table), word_of(table))

    def test_words_of_great_tables_are_refused(self):
        for table in (
            (1, 61, 0, 1), (1, -61, 0, 1), (1, 0, 61, 1), (1, 0, -61, 1), (61, 60, 1, 1), (61, -1, 1, 0),
            (-61, -1, 1, 0), (0, 1, -1, 61), (0, -1, 1, -61), (1, 10 ** 59, 0, 1), (1, 0, -(10 ** 59), 1),
        ):
            a, b, c, d = table
            self.assertEqual(a * d - b * c, 1)
            with self.subTest(table=table), self.assertRaises(NoTable):
                word_of(table)

    def test_words_of_tables_just_within(self):
        for table in (
            (1, 60, 0, 1), (1, -60, 0, 1), (-1, 60, 0, -1), (1, 0, 60, 1), (1, 0, -60, 1), (60, 59, 1, 1),
            (60, -59, -1, 1), (-60, 59, 1, -1), (60, -1, 1, 0), (0, -1, 1, -60), (0, 1, -1, 60), (59, -60, -58, 59),
        ):
            self.check_word(table)
