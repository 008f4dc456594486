"""A desk: a net that is changed, deed by deed, and what becomes of its timetables and likenesses."""

from likespans.errors import BadEvents, BadSpan, BadTimetable, NoSpan, NothingDone, OtherEvents, Refused
from likespans.evening import even_islands
from likespans.islands import islands
from likespans.likes import check_lot, is_likeness
from likespans.nets import Net, are_events, spans_fault
from likespans.ratios import is_below
from likespans.timetables import first_broken, is_timetable


class Desk:
    """A net of now, and the nets that it was ahead of each deed."""

    def __init__(self, net):
        self._nets = [net]

    def _change(self, events, spans):
        """Does a deed: from now on the net has so many events and these spans."""
        beat = self.now().beat
        if not are_events(events):
            raise Refused(BadEvents(events))
        fault = spans_fault(beat, events, spans)
        if fault is not None:
            raise Refused(BadSpan(fault))
        self._nets.append(Net(beat, events, spans))

    def _check_span(self, index):
        """Raises an error if a thing is no number of a span."""
        if not is_below(len(self.now().spans), index):
            raise NoSpan(index)

    def _ahead(self):
        """The net ahead of the last deed."""
        if len(self._nets) == 1:
            raise NothingDone()
        return self._nets[-2]

    def put(self, span):
        """Puts a span behind the others."""
        net = self.now()
        self._change(net.events, net.spans + (span,))

    def strike(self, index):
        """Strikes a span."""
        self._check_span(index)
        net = self.now()
        self._change(net.events, net.spans[:index] + net.spans[index + 1:])

    def bounds(self, index, low, high):
        """Gives a span other bounds."""
        self._check_span(index)
        net = self.now()
        span = net.spans[index][:2] + (low, high)
        self._change(net.events, net.spans[:index] + (span,) + net.spans[index + 1:])

    def with_events(self, many):
        """Gives the net so many events."""
        self._change(many, self.now().spans)

    def back(self):
        """Undoes the last deed."""
        self._ahead()
        self._nets.pop()

    def now(self):
        """The net of now."""
        return self._nets[-1]

    def islands(self):
        """The islands of the net of now."""
        return islands(self.now())

    def even(self, lot):
        """The islands of the net of now that have an even timetable."""
        return even_islands(self.now(), lot)

    def still(self, timetable):
        """The first span that a timetable of the net ahead of the last deed breaks now, None if none."""
        if not is_timetable(self._ahead(), timetable):
            raise BadTimetable()
        net = self.now()
        if len(timetable) != net.events:
            raise OtherEvents()
        return first_broken(net, timetable)

    def lost(self, lot):
        """The indexes of those likenesses of the net ahead of the last deed that are none of the net of now."""
        check_lot(self._ahead(), lot)
        return [index for index, likeness in enumerate(lot) if not is_likeness(self.now(), likeness)]

    def trying(self, deed):
        """Calls a function with the desk, tells what it returns, and has all as it was."""
        kept = list(self._nets)
        try:
            return deed(self)
        finally:
            self._nets = kept
