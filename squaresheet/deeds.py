"""Deeds: what is done to a sheet, and back."""

from squaresheet.mirrors import mirrored
from squaresheet.moving import turned
from squaresheet.sheets import cycles


class Deed:
    def done(self, sheet):
        return sheet

    def back(self):
        return Deed()

    def shown(self):
        return ""


class Shear(Deed):
    def __init__(self, many):
        self.many = many

    def done(self, sheet):
        above = {}
        for row in cycles(sheet[0]):
            for k, square in enumerate(row):
                above[square] = sheet[1][row[(k - self.many) % len(row)]]
        return (sheet[0], tuple([above[square] for square in range(len(above))]))

    def back(self):
        return Shear(-self.many)

    def shown(self):
        return "shear " + str(self.many)


class Turn(Deed):
    def __init__(self, many):
        self.many = many

    def done(self, sheet):
        told = sheet
        # Four turns lead to the very same rows, so the turns back are turns too.
        for once in range(self.many % 4):
            told = turned(told)
        return told

    def back(self):
        return Turn(-self.many)

    def shown(self):
        return "turn " + str(self.many)


class MirrorAcross(Deed):
    def done(self, sheet):
        return mirrored(sheet, True)

    def back(self):
        return MirrorAcross()

    def shown(self):
        return "mirror across"


class MirrorUp(Deed):
    def done(self, sheet):
        return mirrored(sheet, False)

    def back(self):
        return MirrorUp()

    def shown(self):
        return "mirror up"
