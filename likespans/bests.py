"""Best timetables by prices, each with pulls that show that none costs less."""

from likespans.balances import balance
from likespans.errors import BadTimetable, NoTimetable, UnlikePrices
from likespans.evening import are_integers, even_islands, evened
from likespans.islands import island_of, islands, leader
from likespans.leasts import least_row
from likespans.prices import are_alike, check_prices, cost_of
from likespans.ratios import is_number
from likespans.timetables import from_lengths, is_whole, lengths
from likespans.ways import chords


def steps_at(span, costs, number, far):
    """What it saves at most to be so far less, and costs more to be so far more, than a length; None for beyond."""
    at = number - span[2]
    less = costs[at] - costs[at - far] if at >= far else None
    more = costs[at + far] - costs[at] if number + far <= span[3] else None
    return less, more


def arcs_at(net, prices, row, far):
    """The arcs with the least and the most that the pull of each span may be at its length.

    A span that can be no shorter, or no longer, may be pulled beyond all others together.
    """
    steps = [steps_at(span, costs, number, far) for span, costs, number in zip(net.spans, prices, row)]
    beyond = 1 + sum([abs(step) for both in steps for step in both if step is not None])
    arcs = []
    for span, (less, more) in zip(net.spans, steps):
        least = -beyond if less is None else less
        arcs.append((span[0], span[1], least, beyond if more is None else more))
    return arcs


def earlier(net, row, block, far):
    """The lengths when the events of a block are so far earlier."""
    found = list(row)
    for index, span in enumerate(net.spans):
        if span[0] in block and span[1] not in block:
            found[index] = found[index] + far
        elif span[1] in block and span[0] not in block:
            found[index] = found[index] - far
    return found


def lowered(net, prices, row):
    """Lengths of the same rounds that cost the least, and the pulls that show it.

    Blocks are moved by many minutes first, and by one in the end: so few moves are made on long ways.
    """
    widths = [high - low for i, j, low, high in net.spans]
    far = 1
    while widths and 2 * far <= max(widths):
        far = 2 * far
    while True:
        pulls, block = balance(net.events, arcs_at(net, prices, row, far))
        if pulls is None:
            row = earlier(net, row, block, far)
        elif far > 1:
            far = far // 2
        else:
            return row, tuple(pulls)


def best_there(net, prices, island):
    """What best tells, for right prices."""
    row, pulls = lowered(net, prices, lengths(net, leader(net, island)))
    return (cost_of(net, prices, row), from_lengths(net, row)[1], pulls)


def best(net, prices, island):
    """The least cost of a timetable of an island, a whole one that costs it, and pulls that show it."""
    check_prices(net, prices)
    return best_there(net, prices, island)


def are_balanced(net, pulls):
    """Whether the pulls that come to each event have the same sum as those that go from it."""
    over = [0] * net.events
    for span, pull in zip(net.spans, pulls):
        over[span[0]] = over[span[0]] - pull
        over[span[1]] = over[span[1]] + pull
    return all([more == 0 for more in over])


def are_pulls(net, prices, row, thing):
    """Whether a thing is pulls that show that no lengths of the same rounds cost less than these."""
    if not are_integers(thing) or len(thing) != len(net.spans) or not are_balanced(net, thing):
        return False
    for span, costs, number, pull in zip(net.spans, prices, row, thing):
        less, more = steps_at(span, costs, number, 1)
        if (less is not None and pull < less) or (more is not None and pull > more):
            return False
    return True


def is_best(net, prices, island, thing):
    """Whether a thing is what best tells."""
    if not isinstance(thing, tuple) or len(thing) != 3:
        return False
    number, timetable, pulls = thing
    if not is_number(number) or not is_whole(net, timetable) or island_of(net, timetable) != island:
        return False
    row = lengths(net, timetable)
    return number == cost_of(net, prices, row) and are_pulls(net, prices, row, pulls)


def better_move(net, prices, timetable):
    """A move behind which a timetable costs less, None if it costs the least of its island."""
    check_prices(net, prices)
    if not is_whole(net, timetable):
        raise BadTimetable()
    block = balance(net.events, arcs_at(net, prices, lengths(net, timetable), 1))[1]
    return None if block is None else (tuple(block), -1)


def floors_by(net, island, told, rows):
    """For each of these islands a number that none of its timetables costs less than, by the best of an island.

    Where a ring of the base has more rounds, the lengths, each times its pull of this best, sum to as
    many beats more, times the pull of the first span of the ring.
    """
    slopes = [net.beat * told[2][index] for index in chords(net)]
    start = told[0] - sum([slope * many for slope, many in zip(slopes, island)])
    return {row: start + sum([slope * many for slope, many in zip(slopes, row)]) for row in rows}


def least_of(net, prices, rows):
    """The least cost of a timetable of these islands, and the least island that has one."""

    def judged(island, others):
        """The least cost of an island, and floors for others."""
        told = best_there(net, prices, island)
        return told[0], floors_by(net, island, told, others)

    return least_row(rows, judged)


def best_of_all(net, prices):
    """The least cost of all timetables, and the least island that has one."""
    check_prices(net, prices)
    rows = islands(net)
    if not rows:
        raise NoTimetable()
    return least_of(net, prices, rows)


def best_even(net, lot, prices):
    """The least cost of an even timetable, the least island that has one, and such a one."""
    if not are_alike(net, lot, prices):
        raise UnlikePrices()
    rows = even_islands(net, lot)
    if not rows:
        return None
    number, island = least_of(net, prices, rows)
    return (number, island, evened(net, lot, best_there(net, prices, island)[1])[1])


def evenness_costs(net, lot, prices):
    """By how much the best even timetable costs more than the best of all, None if there is no even one."""
    told = best_even(net, lot, prices)
    least = best_of_all(net, prices)[0]
    return None if told is None else told[0] - least
