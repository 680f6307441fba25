"""Tables of four whole numbers, and words of the letters s and t."""

from squaresheet.errors import NoTable, NoWord
from squaresheet.sheets import is_whole

UNMOVED = (1, 0, 0, 1)
LETTERS = {"s": (1, 1, 0, 1), "t": (0, -1, 1, 0)}
MOST_LETTERS = 1000
GREATEST = 60


def table_of(word):
    need_word(word)
    table = UNMOVED
    for letter in word:
        table = product(LETTERS[letter], table)
    return table


def product(one, other):
    need_table(one)
    need_table(other)
    return (
        one[0] * other[0] + one[1] * other[2],
        one[0] * other[1] + one[1] * other[3],
        one[2] * other[0] + one[3] * other[2],
        one[2] * other[1] + one[3] * other[3],
    )


def back_table(table):
    need_table(table)
    return (table[3], -table[1], -table[2], table[0])


def led(table, p, q):
    need_table(table)
    return (table[0] * p + table[1] * q, table[2] * p + table[3] * q)


def word_of(table):
    need_table(table)
    if max([abs(number) for number in table]) > GREATEST:
        raise NoTable(f"words are told for numbers from -{GREATEST} to {GREATEST}")
    left = table
    word = ""
    while left[2] != 0:
        # Rounded up, so that the shears of the later rounds are forward ones, which have far shorter words.
        many = -(-left[0] // left[2])
        word = "t" + shears(many) + word
        left = product(back_table(LETTERS["t"]), product((1, -many, 0, 1), left))
    if left[0] == 1:
        return shears(left[1]) + word
    return "tt" + shears(-left[1]) + word


def need_word(word):
    if len(word) > MOST_LETTERS or not all([letter in LETTERS for letter in word]):
        raise NoWord(f"a word has at most {MOST_LETTERS} letters, s and t alone")


def need_table(thing):
    if not is_table(thing):
        raise NoTable("a table is four whole numbers a, b, c, d with a * d - b * c = 1")


def is_table(thing):
    if not isinstance(thing, tuple) or len(thing) != 4 or not all([is_whole(number) for number in thing]):
        return False
    return thing[0] * thing[3] - thing[1] * thing[2] == 1


# A word with the table (1, many, 0, 1). Three turns, sts and one turn do what one shear back does, and where they
# follow one another the turns between come to none.
def shears(many):
    if many >= 0:
        return "s" * many
    return "ttt" + "sts" * -many + "t"
