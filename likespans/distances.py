"""How far apart the places of events may be, as least sums along arcs.

An arc (one, other, most, step) says that the place of the other event is at most so much above the
place of the one; it comes of a step of a way, from the one event to the other one.
"""


def limits(net, firsts, row):
    """Both arcs of each span, for the rounds of the rings of the base, told with their first spans.

    Along the tree a length is just what the place of j is above that of i; on the first span of a
    ring of the base it is as many beats more as the ring has rounds.
    """
    more = [0] * len(net.spans)
    for index, many in zip(firsts, row):
        more[index] = many * net.beat
    arcs = []
    for index, (i, j, low, high) in enumerate(net.spans):
        arcs.append((i, j, high - more[index], (index, True)))
        arcs.append((j, i, more[index] - low, (index, False)))
    return arcs


def turned(arcs):
    """The arcs the other way round, for the sums that lead to an event instead of from it."""
    return [(other, one, most, step) for one, other, most, step in arcs]


def settled(events, arcs, starts):
    """The least sums of arcs from any of the starts to each event, and None; or None, and a ring.

    The ring goes along arcs with a sum below 0, along no event twice: there are no least sums then.
    """
    sums = [None] * events
    came = [None] * events
    for start in starts:
        sums[start] = 0
    # Every other time the other way round: spans often stand in the order of their events.
    orders = (arcs, arcs[::-1])
    for turn in range(events):
        lowered = None
        for arc in orders[turn % 2]:
            one, other, most = arc[:3]
            if sums[one] is None:
                continue
            if sums[other] is None or sums[one] + most < sums[other]:
                sums[other] = sums[one] + most
                came[other] = arc
                lowered = other
        if lowered is None:
            return sums, None
    return None, ring_behind(came, lowered)


def ring_behind(came, event):
    """The ring in which the arcs by which the events were come to run behind an event."""
    # So many steps back lead into the ring for sure, wherever the event stands.
    for _ in came:
        event = came[event][0]
    arc = came[event]
    steps = [arc[3]]
    while arc[0] != event:
        arc = came[arc[0]]
        steps.append(arc[3])
    return tuple(steps[::-1])


def all_distances(events, arcs):
    """For each event the least sums of arcs from it to each event, None where none lead."""
    return [settled(events, arcs, [event])[0] for event in range(events)]


def window(distances, known, places, event):
    """The least and the greatest place of an event beside events whose places are known.

    Each place between can be kept, and all other events be placed behind it, where the known places
    fit one another. An event with none beside it is put at 0.
    """
    if not known:
        return 0, 0
    least = max([place - distances[event][other] for other, place in zip(known, places)])
    greatest = min([place + distances[other][event] for other, place in zip(known, places)])
    return least, greatest
