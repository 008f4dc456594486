"""The slack of timetables, the widest one of an island, of all, and of the even ones."""

from math import lcm

from likespans.distances import limits, settled
from likespans.errors import NoSpans, NoTimetable
from likespans.evening import even_islands, evened
from likespans.islands import first_events, island_limits, island_of, islands, rounds
from likespans.journeys import in_parts
from likespans.leasts import least_row
from likespans.likes import group
from likespans.means import least_ring
from likespans.ratios import Ratio, is_number, plain, rest_of
from likespans.timetables import is_timetable, lengths
from likespans.ways import chords, is_ring, turns


def check_spans(net):
    """Raises an error if a net has no spans."""
    if len(net.spans) == 0:
        raise NoSpans()


def slack_of(net, row):
    """The slack where the spans have these lengths."""
    found = [number - span[2] for span, number in zip(net.spans, row)]
    found = found + [span[3] - number for span, number in zip(net.spans, row)]
    parts, scaled = in_parts(found)
    return plain(Ratio(min(scaled), parts))


def slack(net, timetable):
    """By how much each length of a timetable is at least within its bounds."""
    row = lengths(net, timetable)
    check_spans(net)
    return slack_of(net, row)


def common_of(net):
    """A number that the number of the steps of each ring divides that goes along no event twice."""
    common = 1
    for many in range(1, net.events + 1):
        common = lcm(common, many)
    return common


def most_slack(net, arcs):
    """The greatest slack within arcs, and a ring of arcs that allows no more: their mean is the slack."""
    common = common_of(net)
    mean, ring = least_ring(net.events, arcs, common)
    return plain(Ratio(mean, common)), ring


def drawn_in(arcs, number):
    """The arcs, each less by a number, all times what makes them whole."""
    parts, scaled = in_parts([number])
    return parts, [(one, other, most * parts - scaled[0], step) for one, other, most, step in arcs]


def spread(net, arcs, number):
    """The timetable with the greatest places where each arc is less by a number."""
    parts, less = drawn_in(arcs, number)
    sums = settled(net.events, less, first_events(net))[0]
    return tuple([rest_of(plain(Ratio(most, parts)), net.beat) for most in sums])


def shown_by(ring):
    """The ring along the steps of arcs, gone the other way: so each span adds its low where it is gone forth."""
    return tuple([(step[0], not step[1]) for one, other, most, step in ring[::-1]])


def widest(net, island):
    """The greatest slack in an island, a timetable that has it, and a ring that shows that none has more."""
    arcs = island_limits(net, island)
    check_spans(net)
    number, ring = most_slack(net, arcs)
    return (number, spread(net, arcs, number), shown_by(ring))


def allows_just(net, number, ring, many):
    """Whether so many rounds of a ring allow just this slack and no more."""
    total = 0
    for index, forth in ring:
        low, high = net.spans[index][2:]
        total = total + (number + low if forth else number - high)
    return total == net.beat * many


def begins_at_0(net, timetable):
    """Whether the first event of each piece has the moment 0."""
    return all([timetable[event] == 0 for event in first_events(net)])


def is_widest(net, island, thing):
    """Whether a thing is what widest tells."""
    if not isinstance(thing, tuple) or len(thing) != 3:
        return False
    number, timetable, ring = thing
    if not is_number(number) or not is_timetable(net, timetable) or not is_ring(net, ring):
        return False
    if island_of(net, timetable) != island or not begins_at_0(net, timetable):
        return False
    return number == slack(net, timetable) and allows_just(net, number, ring, rounds(net, timetable, ring))


def floors_by(net, firsts, ring, rows, common):
    """For each row of rounds a number below which the slack, times -common, cannot be, by a ring of arcs."""
    counts = turns(net, [step for one, other, most, step in ring])
    within = sum([net.spans[step[0]][3] if step[1] else -net.spans[step[0]][2] for one, other, most, step in ring])
    slopes = [net.beat * counts[index] for index in firsts]
    scale = common // len(ring)
    return {row: scale * (sum([slope * many for slope, many in zip(slopes, row)]) - within) for row in rows}


def widest_of(net, rows):
    """The greatest slack of a timetable of these islands, and the least island that has one."""
    firsts = chords(net)
    common = common_of(net)

    def judged(island, others):
        """The slack of an island, times -common, and floors for others by the ring that allows no more."""
        mean, ring = least_ring(net.events, limits(net, firsts, island), common)
        return -mean, floors_by(net, firsts, ring, others, common)

    number, island = least_row(rows, judged)
    return plain(Ratio(-number, common)), island


def widest_of_all(net):
    """The greatest slack of all timetables, and the least island that has one."""
    check_spans(net)
    rows = islands(net)
    if not rows:
        raise NoTimetable()
    return widest_of(net, rows)


def widest_even(net, lot):
    """The greatest slack of an even timetable, the least island that has one, and such a one; None if none is even.

    The means of like lengths are within as narrow bounds as the lengths are: so an island whose like rings
    have the same rounds has an even timetable with its greatest slack.
    """
    group(net, lot)
    check_spans(net)
    rows = even_islands(net, lot)
    if not rows:
        return None
    number, island = widest_of(net, rows)
    return (number, island, evened(net, lot, widest(net, island)[1])[1])
