"""Likenesses: what leads a net into itself, forth, or back as in a mirror."""

from math import lcm

from likespans.errors import BadLikeness, BadLot, BadRing, TooMany
from likespans.islands import neighbours, placing
from likespans.ways import is_event, is_ring

MOST_LIKENESSES = 48
MOST_IN_LOT = 6


def span_led(span, moved, forth):
    """The span to which a span is led, whether the net has it or not."""
    i, j, low, high = span
    return (moved[i], moved[j], low, high) if forth else (moved[j], moved[i], low, high)


def likeness_fault(net, thing):
    """What is wrong with a thing as a likeness: its kind, an event, a span, or None."""
    if not isinstance(thing, tuple) or len(thing) != 2:
        return ("likeness", -1)
    moved, forth = thing
    if not isinstance(moved, tuple) or len(moved) != net.events or not isinstance(forth, bool):
        return ("likeness", -1)
    for index, event in enumerate(moved):
        if not is_event(net, event) or event in moved[:index]:
            return ("event", index)
    for index, span in enumerate(net.spans):
        if span_led(span, moved, forth) not in net.spans:
            return ("span", index)
    return None


def is_likeness(net, thing):
    """Whether a thing is a likeness of the net."""
    return likeness_fault(net, thing) is None


def check_likeness(net, thing):
    """Raises an error if a thing is no likeness."""
    if not is_likeness(net, thing):
        raise BadLikeness()


def indexes_led(net, likeness):
    """For each span the index of the span to which a likeness leads it."""
    moved, forth = likeness
    indexes = {span: index for index, span in enumerate(net.spans)}
    return tuple([indexes[span_led(span, moved, forth)] for span in net.spans])


def spans_led(net, likeness):
    """The indexes of the spans to which the spans are led."""
    check_likeness(net, likeness)
    return indexes_led(net, likeness)


def way_led(indexes, forth, way):
    """The way along the spans to which those of a way are led: from its end on, as in a mirror, if not forth."""
    steps = tuple([(indexes[index], ahead) for index, ahead in way])
    return steps if forth else steps[::-1]


def ring_led(net, likeness, ring):
    """The ring to which a likeness leads a ring."""
    check_likeness(net, likeness)
    if not is_ring(net, ring):
        raise BadRing()
    return way_led(indexes_led(net, likeness), likeness[1], ring)


def bounds_between(net):
    """For each pair of events that spans join the bounds of the spans from the one to the other."""
    found = {}
    for i, j, low, high in net.spans:
        found.setdefault((i, j), []).append((low, high))
    return {pair: sorted(found[pair]) for pair in found}


def fits(table, forth, pair, led):
    """Whether the spans between two events are just those between the events to which these are led."""
    one, other = led if forth else led[::-1]
    there = table.get(pair) == table.get((one, other))
    return there and table.get(pair[::-1]) == table.get((other, one))


def joined_first(net):
    """The events in an order in which each one but the first of a piece is joined to one ahead, lone ones last."""
    near = neighbours(net)
    found = [event for event, still in placing(net)]
    return [event for event in found if near[event]] + [event for event in found if not near[event]]


def likenesses_so(net, forth):
    """All likenesses that are forth, or that are not; some of them, where there are too many."""
    table = bounds_between(net)
    events = joined_first(net)
    found = []
    open_rows = [()]
    while open_rows and len(found) <= MOST_LIKENESSES:
        row = open_rows.pop()
        if len(row) == net.events:
            found.append((tuple([row[events.index(event)] for event in range(net.events)]), forth))
            continue
        event = events[len(row)]
        for led in [other for other in range(net.events) if other not in row]:
            if all([fits(table, forth, (event, other), (led, at)) for other, at in zip(events, row)]):
                open_rows.append(row + (led,))
    return found


def likenesses(net):
    """The ascending list of all likenesses."""
    found = likenesses_so(net, False) + likenesses_so(net, True)
    if len(found) > MOST_LIKENESSES:
        raise TooMany(MOST_LIKENESSES)
    return sorted(found)


def done_behind(one, other):
    """First one likeness, then another one."""
    return tuple([other[0][event] for event in one[0]]), one[1] == other[1]


def behind(net, one, other):
    """The likeness that does first one, then other."""
    check_likeness(net, one)
    check_likeness(net, other)
    return done_behind(one, other)


def back(net, likeness):
    """The likeness that undoes a likeness."""
    check_likeness(net, likeness)
    moved, forth = likeness
    return tuple([moved.index(event) for event in range(net.events)]), forth


def times_round(moved, event):
    """How many times an event is led until it is led to itself."""
    many = 1
    at = moved[event]
    while at != event:
        at = moved[at]
        many += 1
    return many


def order(net, likeness):
    """How many times a likeness is done until it leaves all as it was."""
    check_likeness(net, likeness)
    moved, forth = likeness
    many = 1 if forth else 2
    for event in range(net.events):
        many = lcm(many, times_round(moved, event))
    return many


def check_lot(net, lot):
    """Raises an error if a thing is no lot."""
    if not isinstance(lot, (list, tuple)) or len(lot) > MOST_IN_LOT:
        raise BadLot(-1)
    for index, thing in enumerate(lot):
        if not is_likeness(net, thing):
            raise BadLot(index)


def group(net, lot):
    """The ascending list of the likenesses that come of those of a lot, one behind the other."""
    check_lot(net, lot)
    same = (tuple(range(net.events)), True)
    found = {same: True}
    fresh = [same]
    while fresh:
        one = fresh.pop()
        for other in lot:
            both = done_behind(one, other)
            if both not in found:
                found[both] = True
                fresh.append(both)
        if len(found) > MOST_LIKENESSES:
            raise TooMany(MOST_LIKENESSES)
    return sorted(list(found))


def lists_led(many, rows):
    """The lists of what the rows of a group lead to one another, in the order of their first ones."""
    found = []
    for at in range(many):
        alike = sorted(set([row[at] for row in rows]))
        if alike[0] == at:
            found.append(alike)
    return found


def like_events(net, lot):
    """The ascending lists of the events that are led to one another."""
    return lists_led(net.events, [likeness[0] for likeness in group(net, lot)])


def like_spans(net, lot):
    """The ascending lists of the indexes of the spans that are led to one another."""
    return lists_led(len(net.spans), [indexes_led(net, likeness) for likeness in group(net, lot)])
