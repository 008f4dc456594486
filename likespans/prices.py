"""Prices of lengths that bend upward, and what timetables cost by them."""

from likespans.errors import BadPrices
from likespans.likes import group, indexes_led
from likespans.ratios import is_integer, plain, whole_below
from likespans.timetables import lengths

MOST_PRICE = 1000000000


def bends_upward(row):
    """Whether each next step of a row is at least as great as the step ahead of it."""
    steps = [behind - ahead for ahead, behind in zip(row, row[1:])]
    return all([ahead <= behind for ahead, behind in zip(steps, steps[1:])])


def are_prices_of(span, thing):
    """Whether a thing is a tuple with a price for each whole length of a span."""
    if not isinstance(thing, tuple) or len(thing) != span[3] - span[2] + 1:
        return False
    if not all([is_integer(price) and -MOST_PRICE <= price <= MOST_PRICE for price in thing]):
        return False
    return bends_upward(thing)


def prices_fault(net, thing):
    """What is wrong with a thing as prices: its kind, what stands for a span, or None."""
    if not isinstance(thing, (list, tuple)) or len(thing) != len(net.spans):
        return ("prices", -1)
    for index, row in enumerate(thing):
        if not are_prices_of(net.spans[index], row):
            return ("prices", index)
    return None


def check_prices(net, prices):
    """Raises an error if a thing is no prices of the net."""
    fault = prices_fault(net, prices)
    if fault is not None:
        raise BadPrices(fault[1])


def price_at(span, row, number):
    """The price of a length: between two whole ones in proportion."""
    at = whole_below(number) - span[2]
    part = number - whole_below(number)
    return row[at] if part == 0 else row[at] + part * (row[at + 1] - row[at])


def cost_of(net, prices, row):
    """What these lengths cost."""
    return plain(sum([price_at(span, costs, number) for span, costs, number in zip(net.spans, prices, row)]))


def cost(net, prices, timetable):
    """What a timetable costs."""
    check_prices(net, prices)
    return cost_of(net, prices, lengths(net, timetable))


def are_alike(net, lot, prices):
    """Whether like spans have the same prices."""
    group(net, lot)
    check_prices(net, prices)
    return all([[prices[index] for index in indexes_led(net, likeness)] == list(prices) for likeness in lot])
