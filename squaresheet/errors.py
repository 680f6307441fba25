"""The refusals of the program, each one straight under SheetError."""


class SheetError(ValueError):
    pass


class NoSheet(SheetError):
    pass


class NotTogether(SheetError):
    def __init__(self, square):
        SheetError.__init__(self, f"no path leads from square 0 to square {square}")
        self.square = square


class NoText(SheetError):
    pass


class NoSquare(SheetError):
    pass


class NoWord(SheetError):
    pass


class NoRenumbering(SheetError):
    pass


class NoNumber(SheetError):
    pass


class NoPlace(SheetError):
    pass


class NoWay(SheetError):
    pass


class NoTable(SheetError):
    pass


class TooMany(SheetError):
    pass


class NoDrawing(SheetError):
    pass


class NoRow(SheetError):
    pass


class NothingDone(SheetError):
    pass
