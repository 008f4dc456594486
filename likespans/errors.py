"""The errors of the package: one class for each kind of failure.

Each keeps what it is made with, as passed, under the name of its parameter. Those that keep
nothing take nothing: their empty beginnings bar what ValueError would take.
"""


class SpansError(ValueError):
    """What all errors of the package have as their base."""


class BadNumber(SpansError):
    """A value is no number, or not the kind of number that is asked for."""

    def __init__(self, value):
        self.value = value


class BadBeat(SpansError):
    """A beat is no integer from 3 to 1440."""

    def __init__(self, beat):
        self.beat = beat


class BadEvents(SpansError):
    """A number of events is no integer from 1 to 24."""

    def __init__(self, events):
        self.events = events


class BadSpan(SpansError):
    """No row of spans (-1), or the item that is no span, or stands there ahead."""

    def __init__(self, index):
        self.index = index


class BadWay(SpansError):
    """A thing is no way, or not such a way as is asked for."""

    def __init__(self):
        pass


class BadEvent(SpansError):
    """A thing is no event of the net."""

    def __init__(self, thing):
        self.thing = thing


class BadRing(SpansError):
    """A thing is no ring."""

    def __init__(self):
        pass


class BadTimetable(SpansError):
    """A thing is no timetable of the net, or not such a one as is asked for."""

    def __init__(self):
        pass


class BadLengths(SpansError):
    """No row of so many lengths (-1), or the item that is no length of its span."""

    def __init__(self, index):
        self.index = index


class BadIsland(SpansError):
    """No tuple of so many rounds (-1), or a row of rounds that is no island (-2)."""

    def __init__(self, index):
        self.index = index


class TooMany(SpansError):
    """There are more answers than the limit."""

    def __init__(self, limit):
        self.limit = limit


class BadMove(SpansError):
    """A thing is no move."""

    def __init__(self):
        pass


class Broken(SpansError):
    """The first span that is broken behind a move."""

    def __init__(self, index):
        self.index = index


class BadMoves(SpansError):
    """No row (-1), or the item that is no move, or by which a span is broken."""

    def __init__(self, index):
        self.index = index


class BadLikeness(SpansError):
    """A thing is no likeness of the net, or not such a one as is asked for."""

    def __init__(self):
        pass


class BadLot(SpansError):
    """No row of so few likenesses (-1), or the item that is no likeness."""

    def __init__(self, index):
        self.index = index


class NotEven(SpansError):
    """A timetable is not even."""

    def __init__(self):
        pass


class BadMost(SpansError):
    """A greatest number of parts is no integer from 1 to 6."""

    def __init__(self, most):
        self.most = most


class OtherPiece(SpansError):
    """An event is led to another piece, or two events are of unlike pieces."""

    def __init__(self):
        pass


class BadPrices(SpansError):
    """No row of prices (-1), or the item that is no tuple of prices of its span."""

    def __init__(self, index):
        self.index = index


class NoTimetable(SpansError):
    """A net has no timetable."""

    def __init__(self):
        pass


class UnlikePrices(SpansError):
    """Prices are not alike for like spans."""

    def __init__(self):
        pass


class NoFold(SpansError):
    """A likeness folds no net."""

    def __init__(self):
        pass


class Clash(SpansError):
    """Both ends of a span fall into one event, or two spans into one."""

    def __init__(self):
        pass


class BadTimes(SpansError):
    """A number of times is none that is asked for."""

    def __init__(self, times):
        self.times = times


class BadText(SpansError):
    """No string (-1), or the row that is not written as is asked for."""

    def __init__(self, row):
        self.row = row


class NoEvent(SpansError):
    """There is no such event in a plan."""

    def __init__(self):
        pass


class NoLine(SpansError):
    """There is no line of this name in a plan."""

    def __init__(self, name):
        self.name = name


class NoSpan(SpansError):
    """A thing is no number of a span."""

    def __init__(self, index):
        self.index = index


class Refused(SpansError):
    """A deed is refused, for the error that the net to come would raise."""

    def __init__(self, error):
        self.error = error


class NothingDone(SpansError):
    """There is no deed that could be undone."""

    def __init__(self):
        pass


class OtherEvents(SpansError):
    """The number of events is another one now."""

    def __init__(self):
        pass


class NoSpans(SpansError):
    """A net has no spans."""

    def __init__(self):
        pass


class BadMinutes(SpansError):
    """A lateness is no number above 0."""

    def __init__(self, minutes):
        self.minutes = minutes


class BadBeats(SpansError):
    """A number of beats is no integer from 0 to 40."""

    def __init__(self, beats):
        self.beats = beats
