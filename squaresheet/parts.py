"""Parts: fractions of whole numbers in lowest terms."""

from squaresheet.errors import NoNumber


class Part:
    def __init__(self, top, bottom=1):
        if bottom == 0:
            raise NoNumber("a Part's second number is not 0")
        divisor = common_divisor(top, bottom)
        if bottom < 0:
            # Divided by a number below nought, the bottom comes out above it.
            divisor = -divisor
        self.top = top // divisor
        self.bottom = bottom // divisor

    def plus(self, other):
        return Part(self.top * other.bottom + other.top * self.bottom, self.bottom * other.bottom)

    def minus(self, other):
        return Part(self.top * other.bottom - other.top * self.bottom, self.bottom * other.bottom)

    def times(self, other):
        return Part(self.top * other.top, self.bottom * other.bottom)

    def under(self, other):
        return self.top * other.bottom < other.top * self.bottom

    def same(self, other):
        return self.top == other.top and self.bottom == other.bottom

    def whole(self):
        return self.top // self.bottom

    def rest(self):
        return Part(self.top % self.bottom, self.bottom)

    def shown(self):
        if self.bottom == 1:
            return str(self.top)
        return str(self.top) + "/" + str(self.bottom)


# The greatest number that divides both, from 1 on where they are not both 0.
def common_divisor(one, other):
    greater = abs(one)
    lesser = abs(other)
    while lesser != 0:
        left_over = greater % lesser
        greater = lesser
        lesser = left_over
    return greater
