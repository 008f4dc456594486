"""What is sure of further spans: how far apart the places of two events may be."""

from likespans.distances import limits, settled
from likespans.errors import BadEvent, BadSpan, NoTimetable, OtherPiece
from likespans.islands import first_events, island_limits, islands
from likespans.moving import is_told
from likespans.nets import is_span
from likespans.ratios import below, is_number, rest_of
from likespans.timetables import is_whole
from likespans.ways import chords, is_event, tree_way


def window_by(net, arcs, one, other):
    """The least and the greatest number by which one place may be above another one, None if no arcs join them."""
    most = settled(net.events, arcs, [one])[0][other]
    if most is None:
        return None
    return (-settled(net.events, arcs, [other])[0][one], most)


def window(net, island, one, other):
    """The least and the greatest number by which the place of one event is above that of another one in an island."""
    arcs = island_limits(net, island)
    for event in (one, other):
        if not is_event(net, event):
            raise BadEvent(event)
    return window_by(net, arcs, one, other)


def kept_from(beat, span, least):
    """The first number from a least one on that comes to one within the bounds of a span, by whole beats."""
    low, high = span[2:]
    over = (least - low) % beat
    return least if over <= high - low else least + beat - over


def unkept_from(beat, span, least):
    """The first number from a least one on that comes to none within the bounds of a span."""
    low, high = span[2:]
    over = (least - low) % beat
    return least if over > high - low else least + high - low - over + 1


def standing_apart(net, arcs, span, number):
    """A whole timetable within arcs in which the place of j is just so much above that of i."""
    i, j = span[:2]
    both = arcs + [(i, j, number, None), (j, i, -number, None)]
    return tuple([most % net.beat for most in settled(net.events, both, first_events(net))[0]])


def first_with(net, span, found, first_from):
    """A timetable of the first island whose window has such a number as is looked for, None if none has."""
    for arcs, (least, most) in found:
        number = first_from(net.beat, span, least)
        if number <= most:
            return standing_apart(net, arcs, span, number)
    return None


def word(net, span):
    """Whether all timetables keep a further span, or none does, or some do."""
    if not is_span(net.beat, net.events, span):
        raise BadSpan(0)
    if tree_way(net, span[0], span[1]) is None:
        raise OtherPiece()
    rows = islands(net)
    if not rows:
        raise NoTimetable()
    firsts = chords(net)
    found = []
    for island in rows:
        arcs = limits(net, firsts, island)
        found.append((arcs, window_by(net, arcs, span[0], span[1])))
    keeping = first_with(net, span, found, kept_from)
    other = first_with(net, span, found, unkept_from)
    if keeping is not None and other is not None:
        return ("open", keeping, other)
    return ("never" if keeping is None else "sure", [told for arcs, told in found])


def is_kept_span(net, span, timetable):
    """Whether a timetable keeps a span."""
    i, j, low, high = span
    return not below(high - low, rest_of(timetable[j] - timetable[i] - low, net.beat))


def are_windows(right, thing):
    """Whether a thing is a list of pairs of numbers that are these."""
    if not isinstance(thing, list) or len(thing) != len(right):
        return False
    for told, pair in zip(right, thing):
        if not isinstance(pair, tuple) or len(pair) != 2:
            return False
        if not all([is_number(number) for number in pair]) or pair != told:
            return False
    return True


def is_word(net, span, thing):
    """Whether a thing is what word tells, with any timetables."""
    if is_told("open", 3, thing):
        if not all([is_whole(net, timetable) for timetable in thing[1:]]):
            return False
        return is_kept_span(net, span, thing[1]) and not is_kept_span(net, span, thing[2])
    if not is_told("sure", 2, thing) and not is_told("never", 2, thing):
        return False
    told = word(net, span)
    return told[0] == thing[0] and are_windows(told[1], thing[1])
