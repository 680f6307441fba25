"""Sheets mirrored across and up."""

from squaresheet.sheets import back_row


def mirrored(sheet, across=True):
    if across:
        return (back_row(sheet[0]), sheet[1])
    return (sheet[0], back_row(sheet[1]))
