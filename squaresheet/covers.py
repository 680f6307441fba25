"""Sheets over sheets: maps of a sheet over a base, and sheets folded so that squares come to lie over one."""

from squaresheet.sheets import gone, is_square, need_square, paths_from, size


def is_map(sheet, base, m):
    if len(m) != size(sheet) or not all([is_square(number, size(base)) for number in m]):
        return False
    return keeps_row(sheet[0], base[0], m) and keeps_row(sheet[1], base[1], m)


def laid(sheet, base):
    paths = paths_from(sheet, 0)
    for first in range(size(base)):
        # What is over a path is the same path: so the square that square 0 gets settles the map.
        m = [gone(base, first, paths[square]) for square in range(size(sheet))]
        if is_map(sheet, base, m):
            return m
    return None


def folded(sheet, one, other):
    need_square(sheet, one)
    need_square(sheet, other)
    least = least_folded(sheet, one, other)
    heads = sorted(set(least))
    m = [heads.index(square) for square in least]
    base = (folded_row(sheet[0], heads, m), folded_row(sheet[1], heads, m))
    return (base, m)


def keeps_row(row, base_row, m):
    return all([m[row[square]] == base_row[m[square]] for square in range(len(row))])


# For each square the least of those that are folded together with it. Where two are folded together, so are those at
# the right of them and those above them; those at their left and below them need not be looked at: in each row one
# comes round again to the two themselves.
def least_folded(sheet, one, other):
    least = list(range(size(sheet)))
    pairs = [(one, other)]
    done = 0
    while done < len(pairs):
        pair = pairs[done]
        heads = sorted([least[pair[0]], least[pair[1]]])
        if heads[0] != heads[1]:
            least = [heads[0] if head == heads[1] else head for head in least]
            for row in sheet:
                pairs.append((row[pair[0]], row[pair[1]]))
        done += 1
    return least


def folded_row(row, heads, m):
    return tuple([m[row[head]] for head in heads])
