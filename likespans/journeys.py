"""Journeys along spans forth, and those back, as in a mirror."""

from likespans.errors import BadEvent, BadTimetable, BadWay
from likespans.evening import parts_of
from likespans.likes import indexes_led
from likespans.ratios import Ratio, plain
from likespans.spacing import check_way
from likespans.timetables import is_timetable, lengths, way_sum
from likespans.ways import is_event, is_way


def is_journey(net, thing):
    """Whether a thing is a way along spans forth alone, be it the empty one."""
    return is_way(net, thing) and all([forth for index, forth in thing])


def takes(net, timetable, way):
    """How long a journey takes."""
    row = lengths(net, timetable)
    if not is_journey(net, way):
        raise BadWay()
    return way_sum(row, way)


def in_parts(row):
    """The least parts of a minute in which all numbers of a row are whole, and the row in them."""
    parts = parts_of(row)
    return parts, [plain(number * parts) for number in row]


def quickest_from(net, row, start):
    """For each event that journeys from a start lead to, the least that they take, and one that takes it."""
    found = {start: (0, ())}
    while True:
        further = []
        for index, span in enumerate(net.spans):
            if span[0] in found and span[1] not in found:
                further.append((found[span[0]][0] + row[index], index))
        if not further:
            return found
        number, index = min(further)
        i, j = net.spans[index][:2]
        found[j] = (number, found[i][1] + ((index, True),))


def quickest(net, timetable, one, other):
    """The least that a journey from one event to another one takes, and such a one; None if there is none."""
    if not is_timetable(net, timetable):
        raise BadTimetable()
    for event in (one, other):
        if not is_event(net, event):
            raise BadEvent(event)
    parts, row = in_parts(lengths(net, timetable))
    told = quickest_from(net, row, one).get(other)
    if told is None:
        return None
    return (plain(Ratio(told[0], parts)), told[1])


def there_and_back(net, likeness, timetable):
    """A journey that takes longer or shorter than the one back, None if there is none.

    If any does, then one along a single span does.
    """
    check_way(net, likeness, False)
    row = lengths(net, timetable)
    for index, other in enumerate(indexes_led(net, likeness)):
        if row[index] != row[other]:
            return (((index, True),), row[index], row[other])
    return None


def least_times(net, row):
    """For each event the least that journeys from it to each event take, None where there are none."""
    found = []
    for event in range(net.events):
        told = quickest_from(net, row, event)
        found.append([told[other][0] if other in told else None for other in range(net.events)])
    return found


def quickest_unlike(net, likeness, timetable):
    """The ascending list of the pairs of events for which the quickest journey back takes another time."""
    check_way(net, likeness, False)
    parts, row = in_parts(lengths(net, timetable))
    times = least_times(net, row)
    moved = likeness[0]
    pairs = [(one, other) for one in range(net.events) for other in range(net.events)]
    return [(one, other) for one, other in pairs if times[one][other] != times[moved[other]][moved[one]]]
