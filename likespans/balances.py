"""Balanced pulls along arcs: as much comes to each event as goes from it.

An arc (i, j, least, most) takes a pull from least to most from the event i to the event j.
"""


def arcs_about(events, arcs):
    """For each event the arcs by which a further pull may lead away: index, forth, and the other event."""
    found = [[] for _ in range(events)]
    for index, arc in enumerate(arcs):
        found[arc[0]].append((index, True, arc[1]))
        found[arc[1]].append((index, False, arc[0]))
    return found


def room(arcs, pulls, index, forth):
    """How much further an arc can be pulled forth or back."""
    return arcs[index][3] - pulls[index] if forth else pulls[index] - arcs[index][2]


def ways_off(arcs, about, pulls, over):
    """By which arcs events are come to from those at which too much comes, up to the first with too little.

    That event, or None where there is none, is told behind them.
    """
    came = {event: None for event, more in enumerate(over) if more > 0}
    fresh = list(came)
    while fresh:
        further = []
        for one in fresh:
            for index, forth, other in about[one]:
                if other not in came and room(arcs, pulls, index, forth) > 0:
                    came[other] = (index, forth, one)
                    if over[other] < 0:
                        return came, other
                    further.append(other)
        fresh = further
    return came, None


def way_back(came, event):
    """The arcs from where too much comes to an event, and the event where they begin."""
    steps = []
    while came[event] is not None:
        index, forth, ahead = came[event]
        steps.append((index, forth))
        event = ahead
    return steps, event


def balance(events, arcs):
    """Balanced pulls; or None, and the events of a block at which more comes, for sure, than can go.

    It is a block for which the least pulls that come are as far above the greatest that go as can be.
    """
    pulls = [max(least, min(most, 0)) for i, j, least, most in arcs]
    over = [0] * events
    for (i, j, least, most), pull in zip(arcs, pulls):
        over[i] = over[i] - pull
        over[j] = over[j] + pull
    about = arcs_about(events, arcs)
    while True:
        came, end = ways_off(arcs, about, pulls, over)
        if end is None:
            return (pulls, None) if len(came) == 0 else (None, sorted(list(came)))
        steps, start = way_back(came, end)
        more = min([over[start], -over[end]] + [room(arcs, pulls, index, forth) for index, forth in steps])
        for index, forth in steps:
            pulls[index] = pulls[index] + (more if forth else -more)
        over[start] = over[start] - more
        over[end] = over[end] + more
