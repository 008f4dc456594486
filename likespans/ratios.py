"""Exact numbers: Ratios, and integers beside them."""

from math import gcd

from likespans.errors import BadNumber


def is_integer(thing):
    """Whether a thing is an integer: True and False are none."""
    return isinstance(thing, int) and not isinstance(thing, bool)


def is_below(limit, thing):
    """Whether a thing is an integer from 0 on and below a limit."""
    return is_integer(thing) and 0 <= thing < limit


def is_number(thing):
    """Whether a thing is an integer or a Ratio."""
    return is_integer(thing) or isinstance(thing, Ratio)


def top_of(number):
    """What stands above in a number in lowest terms."""
    return number.top if isinstance(number, Ratio) else number


def bottom_of(number):
    """What stands below in a number in lowest terms."""
    return number.bottom if isinstance(number, Ratio) else 1


def below(one, other):
    """Whether one number is less than another one."""
    return top_of(one) * bottom_of(other) < top_of(other) * bottom_of(one)


def whole_below(number):
    """The greatest integer that is not above a number."""
    return top_of(number) // bottom_of(number)


def plain(number):
    """The same number: an integer where it is whole, else a Ratio."""
    return top_of(number) if bottom_of(number) == 1 else number


def rest_of(number, beat):
    """The number from 0 on and below the beat that is whole beats away, plain."""
    return plain(number.rest(beat)) if isinstance(number, Ratio) else number % beat


class Ratio:
    """The fraction top / bottom, in lowest terms, with bottom from 1 on."""

    def __init__(self, top, bottom):
        for value in (top, bottom):
            if not is_integer(value):
                raise BadNumber(value)
        if bottom == 0:
            raise BadNumber(bottom)
        common = gcd(top, bottom) if bottom > 0 else -gcd(top, bottom)
        self.top = top // common
        self.bottom = bottom // common

    def __add__(self, other):
        if not is_number(other):
            return NotImplemented
        top = self.top * bottom_of(other) + top_of(other) * self.bottom
        return Ratio(top, self.bottom * bottom_of(other))

    def __radd__(self, other):
        return self + other

    def __sub__(self, other):
        if not is_number(other):
            return NotImplemented
        top = self.top * bottom_of(other) - top_of(other) * self.bottom
        return Ratio(top, self.bottom * bottom_of(other))

    def __rsub__(self, other):
        return -self + other

    def __mul__(self, other):
        if not is_number(other):
            return NotImplemented
        return Ratio(self.top * top_of(other), self.bottom * bottom_of(other))

    def __rmul__(self, other):
        return self * other

    def __neg__(self):
        return Ratio(-self.top, self.bottom)

    def __eq__(self, other):
        if not is_number(other):
            return False
        return self.top == top_of(other) and self.bottom == bottom_of(other)

    def __repr__(self):
        return f"Ratio({self.top}, {self.bottom})"

    def over(self, number):
        """This number divided by another one."""
        if not is_number(number) or top_of(number) == 0:
            raise BadNumber(number)
        return Ratio(self.top * bottom_of(number), self.bottom * top_of(number))

    def less(self, number):
        """Whether this number is less than another one."""
        if not is_number(number):
            raise BadNumber(number)
        return below(self, number)

    def sign(self):
        """1, 0 or -1, as the number is above, at or below 0."""
        if self.top == 0:
            return 0
        return 1 if self.top > 0 else -1

    def whole(self):
        """The greatest integer that is not above this number."""
        return self.top // self.bottom

    def rest(self, beat):
        """The Ratio from 0 on and below the beat that is whole beats away."""
        return Ratio(self.top % (self.bottom * beat), self.bottom)
