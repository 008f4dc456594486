"""How far lateness goes, and where it never ends."""

from likespans.errors import BadBeats, BadEvent, BadMinutes, BadTimetable
from likespans.islands import rounds
from likespans.journeys import in_parts, is_journey, quickest_from
from likespans.moving import is_told
from likespans.ratios import Ratio, below, is_below, is_number, plain
from likespans.timetables import beats_over, is_timetable, lengths, way_sum
from likespans.ways import is_event, is_ring, way_ends

MOST_BEATS = 40


def check_late(net, timetable, event, minutes):
    """Raises an error if it cannot be asked how late an event is."""
    if not is_timetable(net, timetable):
        raise BadTimetable()
    if not is_event(net, event):
        raise BadEvent(event)
    if not is_number(minutes) or not below(0, minutes):
        raise BadMinutes(minutes)


def reserves(net, timetable):
    """For each span its length less its low."""
    return [number - span[2] for span, number in zip(net.spans, lengths(net, timetable))]


def reserves_in_parts(net, timetable, minutes):
    """Parts of a minute in which reserves and minutes are whole, and both in them."""
    parts, row = in_parts(reserves(net, timetable) + [minutes])
    return parts, row[:-1], row[-1]


def endless_ring(net, spare, starts):
    """A ring without reserve that takes time and begins at one of the starts; None if there is none.

    Without reserve all its spans take their lows: it takes time if any of these is above 0.
    """
    for index, (i, j, low, high) in enumerate(net.spans):
        if spare[index] == 0 and low > 0 and i in starts:
            back = quickest_from(net, spare, j).get(i)
            if back is not None and back[0] == 0:
                return ((index, True),) + back[1]
    return None


def late(net, timetable, event, minutes):
    """The greatest lateness of each event, or a way to a ring on which lateness never ends."""
    check_late(net, timetable, event, minutes)
    parts, spare, most = reserves_in_parts(net, timetable, minutes)
    ways = quickest_from(net, spare, event)
    left = {other: most - ways[other][0] for other in ways if ways[other][0] < most}
    ring = endless_ring(net, spare, left)
    if ring is not None:
        return ("endless", ways[net.spans[ring[0][0]][0]][1], ring)
    return ("ends", tuple([plain(Ratio(left.get(other, 0), parts)) for other in range(net.events)]))


def are_numbers_like(right, thing):
    """Whether a thing is a tuple of numbers that are these."""
    return isinstance(thing, tuple) and all([is_number(number) for number in thing]) and thing == right


def comes_to(net, event, way, ring):
    """Whether a journey leads from an event to where a ring begins."""
    start = way_ends(net, ring)[0]
    if not is_journey(net, way):
        return False
    return start == event if len(way) == 0 else way_ends(net, way) == (event, start)


def is_endless(net, timetable, event, minutes, way, ring):
    """Whether lateness comes along a way to a ring and never ends there."""
    if not is_ring(net, ring) or not is_journey(net, ring) or not comes_to(net, event, way, ring):
        return False
    spare = reserves(net, timetable)
    if not all([spare[index] == 0 for index, forth in ring]) or rounds(net, timetable, ring) < 1:
        return False
    return below(way_sum(spare, way), minutes)


def is_late(net, timetable, event, minutes, thing):
    """Whether a thing is what late tells, with any way and ring."""
    if is_told("endless", 3, thing):
        return is_endless(net, timetable, event, minutes, thing[1], thing[2])
    if not is_told("ends", 2, thing):
        return False
    told = late(net, timetable, event, minutes)
    return told[0] == "ends" and are_numbers_like(told[1], thing[1])


def pass_on(net, spare, later, table, beat):
    """Lets lateness go along the spans from a beat; whether more came to an event on this very beat.

    A span arrives as many beats later as its length is above the moment of j less that of i.
    """
    again = False
    for index, span in enumerate(net.spans):
        there = beat + later[index]
        if there < len(table):
            number = table[beat][span[0]] - spare[index]
            if number > table[there][span[1]]:
                table[there][span[1]] = number
                again = again or there == beat
    return again


def late_until(net, timetable, event, minutes, beats):
    """All events and beats that are late, up to a beat, with their lateness."""
    check_late(net, timetable, event, minutes)
    if not is_below(MOST_BEATS + 1, beats):
        raise BadBeats(beats)
    parts, spare, most = reserves_in_parts(net, timetable, minutes)
    later = beats_over(net, timetable)
    table = [[0] * net.events for _ in range(beats + 1)]
    table[0][event] = most
    for beat in range(beats + 1):
        while pass_on(net, spare, later, table, beat):
            pass
    found = []
    for other in range(net.events):
        for beat in range(beats + 1):
            if table[beat][other] > 0:
                found.append((other, beat, plain(Ratio(table[beat][other], parts))))
    return found
