"""Images of timetables and of islands by likenesses."""

from likespans.errors import BadIsland, BadTimetable
from likespans.islands import is_row, islands
from likespans.likes import back, check_likeness, group, ring_led
from likespans.ratios import plain, rest_of
from likespans.timetables import is_timetable
from likespans.ways import base, by_base


def image(net, likeness, timetable):
    """The timetable in which each event has the moment of the one led to it, in a mirror if not forth."""
    check_likeness(net, likeness)
    if not is_timetable(net, timetable):
        raise BadTimetable()
    moved, forth = likeness
    moments = [0] * net.events
    for event, moment in zip(moved, timetable):
        moments[event] = plain(moment) if forth else rest_of(-moment, net.beat)
    return tuple(moments)


def base_led(net, likeness):
    """For each ring of the base how often the ring that is led to it goes round each ring of the base."""
    undoing = back(net, likeness)
    return [by_base(net, ring_led(net, undoing, ring)) for ring in base(net)]


def row_led(led, row):
    """The row of rounds that comes of a row of rounds, by what base_led tells."""
    return tuple([sum([many * times for many, times in zip(row, ring)]) for ring in led])


def image_island(net, likeness, island):
    """The island of the images of the timetables of an island."""
    led = base_led(net, likeness)
    if not is_row(net, island):
        raise BadIsland(-1)
    return row_led(led, island)


def is_kept(net, lot, island):
    """Whether each likeness of a lot leads an island to itself."""
    if not is_row(net, island):
        return False
    return kept_by([base_led(net, likeness) for likeness in lot], island)


def kept_by(leads, island):
    """Whether all that base_led tells of several likenesses leads an island to itself."""
    return all([row_led(led, island) == island for led in leads])


def all_led(leads, island):
    """The ascending list of the islands to which an island is led, one likeness behind the other."""
    found = {island: True}
    fresh = [island]
    while fresh:
        row = fresh.pop()
        for led in leads:
            other = row_led(led, row)
            if other not in found:
                found[other] = True
                fresh.append(other)
    return sorted(list(found))


def islands_alike(net, lot):
    """The ascending lists of the islands that are alike, in the order of their first ones."""
    group(net, lot)
    leads = [base_led(net, likeness) for likeness in lot]
    found = []
    known = {}
    for island in islands(net):
        if island not in known:
            alike = all_led(leads, island)
            found.append(alike)
            for other in alike:
                known[other] = True
    return found


def kept_islands(net, likeness):
    """The number of the islands that a likeness leads to themselves."""
    led = base_led(net, likeness)
    return len([island for island in islands(net) if kept_by([led], island)])
