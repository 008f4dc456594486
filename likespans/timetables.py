"""Timetables: a moment of the beat for each event, and the lengths of the spans."""

from likespans.errors import BadLengths, BadNumber, BadTimetable
from likespans.nets import pieces
from likespans.ratios import below, is_number, plain, rest_of
from likespans.ways import base, tree_ways


def reached(net, moments):
    """For each span the first number from its low on that fits the moments, by whole beats."""
    return [low + rest_of(moments[j] - moments[i] - low, net.beat) for i, j, low, high in net.spans]


def first_broken(net, moments):
    """The index of the first span that is broken by the moments, None if none is."""
    for index, number in enumerate(reached(net, moments)):
        if below(net.spans[index][3], number):
            return index
    return None


def is_moment(beat, thing):
    """Whether a thing is a number from 0 on and below the beat."""
    return is_number(thing) and not below(thing, 0) and below(thing, beat)


def moments_fault(net, thing):
    """What is wrong with a thing as a timetable: its kind, a moment, a span, or None."""
    if not isinstance(thing, tuple) or len(thing) != net.events:
        return ("moments", -1)
    for index, moment in enumerate(thing):
        if not is_moment(net.beat, moment):
            return ("moments", index)
    index = first_broken(net, thing)
    return None if index is None else ("span", index)


def is_timetable(net, thing):
    """Whether a thing is a timetable of the net."""
    return moments_fault(net, thing) is None


def is_whole(net, thing):
    """Whether a thing is a timetable of the net with whole moments alone."""
    if not is_timetable(net, thing):
        return False
    return all([isinstance(plain(moment), int) for moment in thing])


def lengths(net, timetable):
    """The tuple of the lengths of the spans."""
    if not is_timetable(net, timetable):
        raise BadTimetable()
    return tuple(reached(net, timetable))


def beats_over(net, timetable):
    """For each span by how many beats its length is above the moment of j less that of i."""
    row = lengths(net, timetable)
    over = [number - timetable[j] + timetable[i] for (i, j, low, high), number in zip(net.spans, row)]
    return [plain(number) // net.beat for number in over]


def shifted(net, timetable, number):
    """The timetable with each moment later by a number."""
    if not is_timetable(net, timetable):
        raise BadTimetable()
    if not is_number(number):
        raise BadNumber(number)
    return tuple([rest_of(moment + number, net.beat) for moment in timetable])


def shift_between(net, one, other):
    """For each piece the number by which one timetable is shifted there to be the other one."""
    if lengths(net, one) != lengths(net, other):
        return None
    return tuple([rest_of(other[piece[0]] - one[piece[0]], net.beat) for piece in pieces(net)])


def way_sum(row, way):
    """The sum of the lengths on a way, where a span gone back counts below 0."""
    total = 0
    for index, forth in way:
        total = total + row[index] if forth else total - row[index]
    return plain(total)


def tree_places(net, row):
    """For each event the sum of the lengths on the tree way from the first event of its piece."""
    found = [0] * net.events
    for piece in pieces(net):
        ways = tree_ways(net, piece[0])
        for event in piece:
            found[event] = way_sum(row, ways[event])
    return tuple(found)


def lengths_fault(net, thing):
    """None for a row with a number within the bounds for each span, else what BadLengths tells."""
    if not isinstance(thing, (list, tuple)) or len(thing) != len(net.spans):
        return -1
    for index, number in enumerate(thing):
        low, high = net.spans[index][2:]
        if not is_number(number) or below(number, low) or below(high, number):
            return index
    return None


def from_lengths(net, row):
    """The timetable with these lengths, or the first ring of the base on which they bar it."""
    fault = lengths_fault(net, row)
    if fault is not None:
        raise BadLengths(fault)
    for ring in base(net):
        if rest_of(way_sum(row, ring), net.beat) != 0:
            return ("ring", ring)
    return ("timetable", tuple([rest_of(place, net.beat) for place in tree_places(net, row)]))
