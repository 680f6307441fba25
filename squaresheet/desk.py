"""The desk: it holds a sheet, is told rows of text and answers each with a list of texts."""

from squaresheet.along import bands_along
from squaresheet.bands import bands
from squaresheet.corners import counts, turns
from squaresheet.covers import laid
from squaresheet.deeds import MirrorAcross, MirrorUp, Shear, Turn
from squaresheet.desk_rows import things_in
from squaresheet.drawings import drawn
from squaresheet.errors import NothingDone
from squaresheet.forms import compared, form
from squaresheet.reach import reached
from squaresheet.texts import SIGNS, read, shown, signs_of
from squaresheet.walks import walk

FIRST_SHEET = "0 0"
CHANGES = ("sheet", "shear", "turn", "mirror")


class Desk:
    def __init__(self):
        self.lying = read(FIRST_SHEET)
        self.earlier = []

    def say(self, row):
        asked = things_in(row)
        if asked[0] in CHANGES:
            self.lay(changed(self.lying, asked))
        elif asked[0] == "undo":
            self.undo()
        else:
            return answer(self.lying, asked)
        return [shown(self.lying)]

    def sheet(self):
        return self.lying

    def steps(self):
        return len(self.earlier)

    def lay(self, sheet):
        self.earlier.append(self.lying)
        self.lying = sheet

    def undo(self):
        if len(self.earlier) == 0:
            raise NothingDone("nothing is left to undo")
        self.lying = self.earlier.pop()


def changed(sheet, asked):
    if asked[0] == "sheet":
        return sheet_in(asked)
    return deed_in(asked).done(sheet)


def sheet_in(asked):
    return read(asked[1] + " " + asked[2])


def deed_in(asked):
    if asked[0] == "shear":
        return Shear(asked[1])
    if asked[0] == "turn":
        return Turn(asked[1])
    if asked[1] == "across":
        return MirrorAcross()
    return MirrorUp()


def answer(sheet, asked):
    word = asked[0]
    if word == "form":
        return [shown(form(sheet))]
    if word == "turns":
        return [numbers_text(turns(sheet), " ")]
    if word == "counts":
        return [numbers_text(counts(sheet), " ")]
    if word == "bands":
        return [band_text(band) for band in bands(sheet)]
    if word == "along":
        return [numbers_text(band, "x") for band in bands_along(sheet, asked[1], asked[2])]
    if word == "draw":
        return drawn(sheet)
    if word == "walk":
        return [walk_text(walk(sheet, (asked[1], asked[2], asked[3]), asked[4], asked[5], asked[6]))]
    if word == "same":
        return [same_text(compared(sheet, sheet_in(asked)))]
    if word == "reach":
        return [str(len(reached(sheet, asked[1])))]
    return [over_text(laid(sheet, sheet_in(asked)))]


def numbers_text(numbers, sign):
    return sign.join([str(number) for number in numbers])


def band_text(band):
    return numbers_text(band[:2], "x") + "+" + numbers_text(band[2], ",")


def walk_text(told):
    if told[0] == "corner":
        return " ".join(["corner", SIGNS[told[1]], told[2].shown()])
    place = told[1]
    return " ".join(["there", SIGNS[place[0]], place[1].shown(), place[2].shown()])


def same_text(told):
    if told[0] == "same":
        return "same " + signs_of(told[1])
    place = "-" if told[3] is None else str(told[3])
    return " ".join(["unlike", shown(told[1]), shown(told[2]), place])


def over_text(m):
    if m is None:
        return "none"
    return signs_of(m)
