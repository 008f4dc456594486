"""Plans of lines: their nets, what each event is, and where trains meet."""

from math import lcm

from likespans.errors import BadEvent, BadText, BadTimetable, NoEvent, NoLine
from likespans.islands import rounds
from likespans.journeys import in_parts
from likespans.likes import is_likeness
from likespans.nets import Net
from likespans.plan_rows import all_spans, all_stops, read_plan
from likespans.ratios import Ratio, plain
from likespans.timetables import is_timetable, lengths
from likespans.ways import is_event


def likeness_or_none(net, moved, forth):
    """The pair of events moved and a flag, None if it is no likeness of the net."""
    likeness = (tuple(moved), forth)
    return likeness if is_likeness(net, likeness) else None


def meeting_moments(beat, out, home):
    """At which moments trains out and home meet on a run: whole numbers, ascending, and what they are divided by.

    Both are pairs of a departure and a length. With all in parts, a train out is at the moment x as far
    on its way as (x - start) / time tells, and one home, some beats later, has (x - other) / back of its
    way behind it: they are at one point where both together are 1. They are both on their way exactly if
    so many beats lie between start - other - back and start - other + time.
    """
    parts, row = in_parts([beat, out[0], out[1], home[0], home[1]])
    whole, start, time, other, back = row
    tops = []
    for many in range((start - other - back) // whole + 1, (start - other + time - 1) // whole + 1):
        top = time * back + start * back + (other + many * whole) * time
        tops.append(top % (whole * (time + back)))
    return sorted(set(tops)), (time + back) * parts


def in_order(meetings):
    """The pairs of a moment and the index of its run, by moments, then by runs.

    For each run there are whole numbers and what they are divided by; all are compared over one number.
    """
    common = 1
    for tops, bottom in meetings:
        common = lcm(common, bottom)
    found = []
    for at, (tops, bottom) in enumerate(meetings):
        found = found + [(top * (common // bottom), at, top) for top in tops]
    return [(plain(Ratio(top, meetings[at][1])), at) for scaled, at, top in sorted(found)]


class Plan:
    """Lines out and home, told by rows, and the net that they make."""

    def __init__(self, text):
        if not isinstance(text, str):
            raise BadText(-1)
        told = read_plan(text)
        self._stops = tuple(all_stops(told))
        self._places = {name: told.routes[name][0] for name in told.routes}
        self.text = text
        self.net = Net(told.beat, len(self._stops), all_spans(told))

    def __eq__(self, other):
        return isinstance(other, Plan) and self.text == other.text

    def _check_line(self, name):
        """Raises an error if a thing is the name of no line."""
        if not isinstance(name, str) or name not in self._places:
            raise NoLine(name)

    def _line_events(self, name):
        """The events of a line, in order."""
        return [event for event, stop in enumerate(self._stops) if stop[0] == name]

    def event(self, name, way, place, kind):
        """The event that an arrival or a departure of a line is."""
        stop = (name, way, place, kind)
        if not all([isinstance(part, str) for part in stop]) or stop not in self._stops:
            raise NoEvent()
        return self._stops.index(stop)

    def names(self, event):
        """The line, the way, the place and the kind of an event."""
        if not is_event(self.net, event):
            raise BadEvent(event)
        return self._stops[event]

    def lines(self):
        """The names of the lines, in order."""
        return list(self._places)

    def ring(self, name):
        """The ring of a line, from its first departure out on."""
        self._check_line(name)
        events = self._line_events(name)
        by_ends = {}
        # The spans of lines stand ahead of all others, so the first one between two events is the line's.
        for index, span in enumerate(self.net.spans):
            by_ends.setdefault(span[:2], index)
        return tuple([(by_ends[ends], True) for ends in zip(events, events[1:] + events[:1])])

    def trains(self, name, timetable):
        """The rounds of the ring of a line: so many trains it needs."""
        return rounds(self.net, timetable, self.ring(name))

    def mirror(self):
        """The likeness that exchanges out and home, departures and arrivals; None if there is none such.

        The events of a line are those of the other way when they are gone through from the last one on.
        """
        moved = []
        for name in self._places:
            moved = moved + self._line_events(name)[::-1]
        return likeness_or_none(self.net, moved, False)

    def exchanged(self, one, other):
        """The likeness that exchanges two lines, None if there is none such."""
        self._check_line(one)
        self._check_line(other)
        if len(self._places[one]) != len(self._places[other]):
            return None
        moved = list(range(self.net.events))
        for event, led in zip(self._line_events(one), self._line_events(other)):
            moved[event] = led
            moved[led] = event
        return likeness_or_none(self.net, moved, True)

    def meets(self, name, timetable):
        """At which moments, and on which runs, trains of a line out and home meet."""
        ring = self.ring(name)
        if not is_timetable(self.net, timetable):
            raise BadTimetable()
        row = lengths(self.net, timetable)
        # What happens at each event of the ring, from the first departure out on: its moment, and how long
        # the span behind it takes. Each run home stands as far from the end as its run out from the begin.
        legs = [(timetable[self.net.spans[index][0]], row[index]) for index, forth in ring]
        places = self._places[name]
        meetings = []
        for at in range(len(places) - 1):
            meetings.append(meeting_moments(self.net.beat, legs[2 * at], legs[-2 - 2 * at]))
        return [(moment, places[at], places[at + 1]) for moment, at in in_order(meetings)]
