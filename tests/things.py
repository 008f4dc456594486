"""What several tests need: nets, things of many kinds, and Fractions beside Ratios."""

from fractions import Fraction

from likespans import errors
from likespans.desks import Desk
from likespans.nets import Net
from likespans.plans import Plan
from likespans.ratios import Ratio


def line():
    """The net of the examples: a line out and home."""
    return Net(10, 4, ((0, 1, 2, 4), (1, 2, 1, 3), (2, 3, 2, 4), (3, 0, 1, 3)))


def some_function():
    """Stands among the things that are neither numbers nor tuples."""


def things():
    """Objects of every kind that an argument may be of where an error is named for it."""
    return [
        None, True, False, NotImplemented, Ellipsis, "", "1", "moves", b"", b"ring", bytearray(b"x"),
        memoryview(b"xy"), [], [0], [[0, True]], (), (0,), (0, 1), (None, None), ("moves", []), ("ring", (), 0, 1),
        (0, True), ((0, True),), ((0, 1),), ([0, True],), {}, {0: 1}, range(0), range(4), iter([]), slice(0, 1),
        object(), int, type, len, some_function, zip(), enumerate([]), property(), ValueError("x"),
        errors.BadWay(), errors.BadNumber(1), Ratio(1, 2), Ratio(3, 1), line(), -1, 10 ** 40, -10 ** 40,
        (Ratio(1, 2),) * 4, (10 ** 40,) * 4, ("0", "3", "5", "8"), (None,) * 4, (True, False, True, False),
        nested(20), [nested(19)], {"a": [nested(18)]}, Desk(line()), Plan("beat 10\nline a p 2 4 q"), errors.Refused(errors.BadSpan(-1)),
    ]


def nested(deep):
    """A tuple in a tuple in a tuple."""
    thing = ()
    for _ in range(deep - 1):
        thing = (thing,)
    return thing


def fraction(number):
    """The Fraction that is a number."""
    if isinstance(number, Ratio):
        return Fraction(number.top, number.bottom)
    return Fraction(number)


def ratio(value):
    """The Ratio that is a Fraction."""
    return Ratio(value.numerator, value.denominator)


def is_plain(number):
    """Whether a number is an integer, or a Ratio that is not whole."""
    if isinstance(number, Ratio):
        return number.bottom > 1
    return isinstance(number, int) and not isinstance(number, bool)


def knot():
    """A net of three pieces: three events with two rings, two with one, and one alone."""
    return Net(10, 6, ((0, 1, 2, 4), (2, 1, 1, 3), (0, 2, 0, 3), (4, 3, 1, 1), (3, 4, 2, 9), (1, 0, 3, 5)))


def error_of(call, *passed):
    """The class of the error that a call raises and what it keeps, None where it raises none."""
    try:
        call(*passed)
    except errors.SpansError as error:
        return (type(error).__name__,) + tuple(vars(error).values())
    return None
