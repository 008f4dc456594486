"""Nets: events, spans between them, and the beat after which all comes round."""

from likespans.errors import BadBeat, BadEvents, BadSpan
from likespans.ratios import is_below, is_integer

LEAST_BEAT = 3
MOST_BEAT = 1440
MOST_EVENTS = 24
MOST_SPANS = 60
MOST_HIGH = 2880


class Net:
    """A beat, a number of events, and the spans between them."""

    def __init__(self, beat, events, spans):
        if not is_integer(beat) or not LEAST_BEAT <= beat <= MOST_BEAT:
            raise BadBeat(beat)
        if not are_events(events):
            raise BadEvents(events)
        fault = spans_fault(beat, events, spans)
        if fault is not None:
            raise BadSpan(fault)
        self.beat = beat
        self.events = events
        self.spans = tuple(spans)

    def __eq__(self, other):
        if not isinstance(other, Net):
            return False
        return self.beat == other.beat and self.events == other.events and self.spans == other.spans


def are_events(thing):
    """Whether a thing is a number of events that a net may have."""
    return is_integer(thing) and 1 <= thing <= MOST_EVENTS


def is_span(beat, events, thing):
    """Whether a thing is a span for this beat and so many events."""
    if not isinstance(thing, tuple) or len(thing) != 4:
        return False
    if not all([is_integer(part) for part in thing]):
        return False
    i, j, low, high = thing
    if not is_below(events, i) or not is_below(events, j) or i == j:
        return False
    # A width of beat - 1 would bar no minute, and a length could be told twice.
    return 0 <= low <= high <= MOST_HIGH and high - low <= beat - 2


def spans_fault(beat, events, thing):
    """None for a row of unlike spans, else the index that BadSpan tells."""
    if not isinstance(thing, (list, tuple)) or len(thing) > MOST_SPANS:
        return -1
    for index, span in enumerate(thing):
        if not is_span(beat, events, span) or span in thing[:index]:
            return index
    return None


def joined(heads, one, other):
    """The head of the piece of each event, once a span joins one event and another one."""
    both = (heads[one], heads[other])
    return [min(both) if head in both else head for head in heads]


def pieces(net):
    """The ascending lists of events that hang together, by their first events."""
    heads = list(range(net.events))
    for span in net.spans:
        heads = joined(heads, span[0], span[1])
    found = {}
    for event, head in enumerate(heads):
        found.setdefault(head, []).append(event)
    return list(found.values())
