"""All sheets to which words lead, and ways from one sheet to another one."""

from squaresheet.errors import TooMany
from squaresheet.forms import form
from squaresheet.moving import moved


def reached(sheet, most):
    told = []
    listed = {}
    put(told, listed, (form(sheet), ""), most)
    done = 0
    while done < len(told):
        here = told[done]
        for letter in "st":
            put(told, listed, (form(moved(here[0], letter)), here[1] + letter), most)
        done += 1
    return told


def way(one, other, most):
    wanted = form(other)
    words = [pair[1] for pair in reached(one, most) if pair[0] == wanted]
    if len(words) == 0:
        return None
    return words[0]


def put(told, listed, pair, most):
    if pair[0] in listed:
        return
    if len(told) >= most:
        raise TooMany(f"there are more than {most} sheets")
    listed[pair[0]] = True
    told.append(pair)
