"""Rings of arcs with the least mean: what slack is judged by.

Arcs are those of likespans.distances: (one, other, most, step).
"""


def walks(events, arcs):
    """For each number of steps up to that of the events the least sum of so many arcs to each event, and its last arc.

    The walks may begin at any event. None stands where there is none of so many steps.
    """
    sums = [[0] * events]
    came = [[None] * events]
    for _ in range(events):
        ahead = sums[-1]
        least = [None] * events
        by = [None] * events
        for arc in arcs:
            one, other, most = arc[:3]
            if ahead[one] is not None and (least[other] is None or ahead[one] + most < least[other]):
                least[other] = ahead[one] + most
                by[other] = arc
        sums.append(least)
        came.append(by)
    return sums, came


def mean_bound(sums, event, common):
    """The least mean of rings on the longest walk to an event, times a number that each number of steps divides."""
    many = len(sums) - 1
    longest = sums[many][event]
    ahead = [(sums[at][event], many - at) for at in range(many) if sums[at][event] is not None]
    return max([(longest - total) * (common // steps) for total, steps in ahead])


def ring_on(came, event):
    """A ring on the longest walk that leads to an event, as a tuple of its arcs."""
    arcs = []
    seen = {event: 0}
    for by in came[:0:-1]:
        arcs.append(by[event])
        event = by[event][0]
        if event in seen:
            return tuple(arcs[seen[event]:][::-1])
        seen[event] = len(arcs)
    return None


def least_ring(events, arcs, common):
    """The least mean of the arcs on a ring, times a common number, and a ring that has it, along no event twice.

    A walk of as many steps as there are events has a ring on it. Were all sums less by the least mean, so
    that rings with it sum to 0: of some event then the longest walk is no longer than any other one, so
    without its ring it would be no shorter.
    """
    sums, came = walks(events, arcs)
    bounds = [(mean_bound(sums, event, common), event) for event in range(events) if sums[-1][event] is not None]
    mean, event = min(bounds)
    return mean, ring_on(came, event)
