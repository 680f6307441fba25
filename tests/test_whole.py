"""Points 1 to 4: what the document promises over the whole program, each of its sentences on many sheets."""

import copy
import itertools
import random
import unittest
from fractions import Fraction
from math import gcd

from squaresheet.along import bands_along, to_level
from squaresheet.bands import bands, borders, rows, upright
from squaresheet.corners import corners, counts, round_of, turns
from squaresheet.covers import folded, is_map, laid
from squaresheet.deeds import MirrorAcross, MirrorUp, Shear, Turn
from squaresheet.desk import Desk
from squaresheet.drawings import drawn, seen
from squaresheet.errors import TooMany
from squaresheet.forms import compared, form, own
from squaresheet.mirrors import mirrored
from squaresheet.moving import moved, moved_place, sheared, turned
from squaresheet.numberings import leads, numbering, renumbered
from squaresheet.parts import Part
from squaresheet.reach import reached, way
from squaresheet.sheets import back_row, gone, groups, path_between, sheet_of, size
from squaresheet.tables import led, table_of, word_of
from squaresheet.texts import read, shown
from squaresheet.walks import back_after, walk

from samples import ONE, THREE, block, great_sheets, place_of, plain_answer, shuffled, slit, small_sheets

SMALL = list(small_sheets(4))
GREAT = great_sheets(40)
MANY = SMALL[::3] + GREAT
WAYS = [(p, q) for p in range(-4, 5) for q in range(-4, 5) if gcd(p, q) == 1]


def random_word(source, most):
    return "".join(source.choice("sst") for letter in range(source.randrange(most + 1)))


class SheetsToldApart(unittest.TestCase):
    def test_a_renumbering_is_told_just_where_one_leads(self):
        for length in (1, 2, 3):
            sheets = [sheet for sheet in SMALL if size(sheet) == length]
            orders = list(itertools.permutations(range(length)))
            for one, other in itertools.product(sheets, sheets):
                fit = [list(f) for f in orders if renumbered(one, list(f)) == other]
                told = compared(one, other)
                if fit:
                    self.assertEqual(told[0], "same")
                    self.assertIn(told[1], fit)
                else:
                    self.assertEqual(told[:3], ("unlike", form(one), form(other)))
                self.assertEqual(form(one) == form(other), fit != [])

    def test_the_place_where_forms_part(self):
        for one, other in itertools.product(MANY[::5], MANY[::7]):
            told = compared(one, other)
            if told[0] == "same":
                self.assertIs(leads(one, other, told[1]), True)
            elif size(one) != size(other):
                self.assertIsNone(told[3])
            else:
                mine, others = (told[k][0] + told[k][1] for k in (1, 2))
                self.assertEqual(mine[:told[3]], others[:told[3]])
                self.assertNotEqual(mine[told[3]], others[told[3]])

    def test_renumbered_sheets_have_one_form(self):
        source = random.Random(41)
        for sheet in MANY:
            other = renumbered(sheet, shuffled(source, size(sheet)))
            self.assertEqual(form(other), form(sheet))
            self.assertIs(leads(sheet, other, compared(sheet, other)[1]), True)


class Handles(unittest.TestCase):
    def check(self, sheet):
        points, sides, squares, handles = counts(sheet)
        self.assertEqual(sum(turn - 1 for turn in turns(sheet)), 2 * handles - 2)
        self.assertEqual(points - sides + squares, 2 - 2 * handles)
        self.assertEqual((points, sides, squares), (len(corners(sheet)), 2 * size(sheet), size(sheet)))
        self.assertGreaterEqual(handles, 1)

    def test_turns_and_handles(self):
        for sheet in SMALL + GREAT:
            self.check(sheet)

    def test_shears_turns_and_mirrors_change_neither(self):
        source = random.Random(42)
        for sheet in MANY:
            deeds = (Shear(source.randrange(-99, 99)), Turn(source.randrange(-9, 9)), MirrorAcross(), MirrorUp())
            told = [deed.done(sheet) for deed in deeds]
            told += [sheared(sheet), turned(sheet), mirrored(sheet), mirrored(sheet, False)]
            told += [moved(sheet, random_word(source, 9))]
            for other in told:
                self.check(other)
                self.assertEqual((turns(other), counts(other)), (turns(sheet), counts(sheet)))


class Bands(unittest.TestCase):
    def test_the_bands_cover_a_sheet_just_once(self):
        source = random.Random(43)
        for sheet in MANY:
            told = [[band[:2] for band in bands(sheet)], [band[:2] for band in upright(sheet)]]
            told += [bands_along(sheet, p, q) for p, q in source.sample(WAYS, 5)]
            for some in told:
                self.assertEqual(sum(length * width for length, width in some), size(sheet))

    def test_a_straight_walk_comes_back_behind_its_bands_length_or_to_a_corner(self):
        source = random.Random(44)
        met = []
        for sheet in MANY:
            for p, q in source.sample(WAYS, 4):
                x, y = Fraction(source.randrange(4), 4), Fraction(source.randrange(3), 3)
                place = place_of(source.randrange(size(sheet)), x, y)
                told = back_after(sheet, place, p, q)
                met.append(told[0])
                if told[0] == "back":
                    self.assertIn(told[1], [length for length, width in bands_along(sheet, p, q)])
                    self.assertEqual(plain_answer(walk(sheet, place, p, q, told[1])), ("there", (place[0], x, y)))
                else:
                    self.assertGreater(len(round_of(sheet, told[1])), 1)
                    self.assertEqual((q * x - p * y).denominator, 1)
                    self.assertEqual(plain_answer(walk(sheet, place, p, q, 60)), plain_answer(told))
        self.assertGreater(min(met.count("back"), met.count("corner")), 50)


class Words(unittest.TestCase):
    def test_words_of_one_table(self):
        source = random.Random(45)
        for sheet in MANY:
            word = random_word(source, 7)
            other = word_of(table_of(word))
            for alike in (other, "tttt" + word, word + "stststststst", "stttstst" + word):
                self.assertEqual(table_of(alike), table_of(word))
                self.assertEqual(compared(moved(sheet, word), moved(sheet, alike))[0], "same")

    def test_a_walk_and_the_moved_walk(self):
        source = random.Random(46)
        for sheet in MANY:
            x, y = Fraction(source.randrange(5), 5), Fraction(source.randrange(2), 2)
            place, word = place_of(source.randrange(size(sheet)), x, y), random_word(source, 6)
            p, q = source.choice(WAYS)
            told = walk(sheet, place, p, q, 3)
            there = walk(moved(sheet, word), moved_place(sheet, place, word), *led(table_of(word), p, q), 3)
            if told[0] == "there":
                told = ("there", moved_place(sheet, told[1], word))
                self.assertEqual(plain_answer(there), plain_answer(told))
            else:
                corner = moved_place(sheet, (told[1], Part(0), Part(0)), word)[0]
                self.assertIn(there[1], round_of(moved(sheet, word), corner))
                self.assertEqual(plain_answer(there)[::2], plain_answer(told)[::2])

    def test_bands_by_the_table_to_level(self):
        source = random.Random(47)
        for sheet in MANY[::3]:
            p, q = source.choice(WAYS)
            level = moved(sheet, word_of(to_level(p, q)))
            self.assertEqual(bands_along(sheet, p, q), sorted(band[:2] for band in bands(level)))
            self.assertEqual(bands_along(level, 1, 0), bands_along(sheet, p, q))


class Reached(unittest.TestCase):
    def test_all_to_which_words_lead_or_more_than_were_asked_for(self):
        met = []
        words = ["".join(letters) for length in range(7) for letters in itertools.product("st", repeat=length)]
        for sheet in MANY[::2]:
            try:
                told = reached(sheet, 12)
            except TooMany:
                met.append("more")
                # More than twelve of them are found along plain words, too.
                found, here = {form(sheet)}, [form(sheet)]
                while len(found) <= 12:
                    here = [form(move(one)) for one in here for move in (sheared, turned)]
                    here = sorted(set(here) - found)
                    self.assertTrue(here)
                    found.update(here)
                continue
            met.append("all")
            forms = [there for there, word in told]
            self.assertEqual(len(set(forms)), len(forms))
            for there, word in told:
                self.assertEqual(form(moved(sheet, word)), there)
            for word in words[::5]:
                self.assertIn(form(moved(sheet, word)), forms)
            self.assertEqual([way(sheet, there, 12) for there in forms], [word for there, word in told])
        self.assertGreater(min(met.count("all"), met.count("more")), 20)


class Maps(unittest.TestCase):
    def test_a_map_is_told_just_where_there_is_one(self):
        some = SMALL[::11] + [block(2, 2), block(4, 1), block(1, 4), slit(block(2, 2), 0, 1)]
        met = []
        for sheet, base in itertools.product(some, some):
            lists = itertools.product(range(size(base)), repeat=size(sheet))
            maps = [list(m) for m in lists if is_map(sheet, base, list(m))]
            met.append(bool(maps))
            self.assertEqual(laid(sheet, base), maps[0] if maps else None)
        self.assertGreater(min(met.count(True), met.count(False)), 50)

    def test_folded_sheets_are_covered(self):
        source = random.Random(48)
        for sheet in MANY:
            one, other = source.randrange(size(sheet)), source.randrange(size(sheet))
            base, m = folded(sheet, one, other)
            self.assertIs(is_map(sheet, base, m), True)
            self.assertEqual({m.count(square) for square in range(size(base))}, {size(sheet) // size(base)})
            self.assertLessEqual(laid(sheet, base)[0], m[0])
            word = random_word(source, 9)
            self.assertIs(is_map(moved(sheet, word), moved(base, word), m), True)


class Together(unittest.TestCase):
    def test_what_the_desk_says_is_what_the_functions_tell(self):
        source = random.Random(49)
        desk = Desk()
        for sheet in MANY:
            deed = source.choice((Shear(source.randrange(-999, 999)), Turn(source.randrange(-999, 999)), MirrorUp()))
            self.assertEqual(desk.say("sheet " + shown(sheet)), [shown(sheet)])
            self.assertEqual(read(desk.say(deed.shown())[0]), deed.done(sheet))
            self.assertEqual(seen(desk.say("draw")), desk.sheet())
            self.assertEqual(read(desk.say("form")[0]), form(deed.done(sheet)))
            self.assertEqual(read(desk.say("undo")[0]), sheet)


class KeptApart(unittest.TestCase):
    """Point 2 over the whole program: asked again, the same is told, and each list is a new one."""

    ASKED = (
        lambda sheet: groups(list(sheet[0]), list(sheet[1])), lambda sheet: round_of(sheet, 0), corners, turns, rows,
        borders, bands, upright, own, drawn, lambda sheet: numbering(sheet, 0), lambda sheet: bands_along(sheet, 1, 1),
        lambda sheet: compared(sheet, sheet)[1], lambda sheet: folded(sheet, 0, 0)[1], lambda sheet: laid(sheet, ONE),
        lambda sheet: reached(block(2, 1), 3),
    )

    def test_each_list_that_is_told_is_a_new_one(self):
        for sheet in MANY[::6]:
            for ask in self.ASKED:
                one, other = ask(sheet), ask(sheet)
                self.assertEqual((one.__class__, one), (list, other))
                kept = copy.deepcopy(other)
                for thing in one:
                    if thing.__class__ is list:
                        thing.clear()
                one.clear()
                self.assertEqual(other, kept)
                self.assertEqual(ask(sheet), kept)

    def test_what_is_done_later_to_a_list_that_was_handed_in_changes_nothing(self):
        right, up = [1, 0, 2], [2, 1, 0]
        sheet, parts = sheet_of(right, up), groups(right, up)
        f = [2, 0, 1]
        other = renumbered(sheet, f)
        texts = drawn(sheet)
        again = seen(texts)
        self.assertEqual((right, up, f), ([1, 0, 2], [2, 1, 0], [2, 0, 1]))
        for thing in (right, up, f, texts):
            thing.clear()
        self.assertEqual((sheet, parts, again), (THREE, [[0, 1, 2]], THREE))
        self.assertEqual(other, ((2, 1, 0), (0, 2, 1)))

    def test_sheets_that_are_told_have_tuples_as_rows(self):
        for sheet in MANY[::4]:
            told = (
                sheet_of(list(sheet[0]), list(sheet[1])), read(shown(sheet)), form(sheet), sheared(sheet),
                turned(sheet), moved(sheet, "sst"), mirrored(sheet), mirrored(sheet, False), seen(drawn(sheet)),
                folded(sheet, 0, 0)[0], renumbered(sheet, list(range(size(sheet)))), Shear(3).done(sheet),
                Turn(-1).done(sheet),
            )
            for other in told:
                self.assertEqual([other.__class__] + [row.__class__ for row in other], [tuple] * 3)
                self.assertEqual(sheet_of(*other), other)

    def test_paths_lead_from_each_square_to_each(self):
        for sheet in MANY[::4]:
            left, down = back_row(sheet[0]), back_row(sheet[1])
            for square in range(size(sheet)):
                self.assertEqual(gone(sheet, 0, path_between(sheet, 0, square)), square)
                self.assertEqual(gone(sheet, square, path_between(sheet, square, 0)), 0)
                self.assertEqual((sheet[0][left[square]], sheet[1][down[square]]), (square, square))
