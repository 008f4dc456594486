"""Ways along spans, the tree of a net, and the rings of its base."""

from likespans.errors import BadEvent, BadRing, BadWay
from likespans.nets import joined
from likespans.ratios import is_below


def is_event(net, thing):
    """Whether a thing is an event of the net."""
    return is_below(net.events, thing)


def is_step(net, thing):
    """Whether a thing is a pair of the index of a span and a flag."""
    if not isinstance(thing, tuple) or len(thing) != 2:
        return False
    return is_below(len(net.spans), thing[0]) and isinstance(thing[1], bool)


def step_ends(net, step):
    """The events from which and to which a step of a way leads."""
    index, forth = step
    span = net.spans[index]
    return (span[0], span[1]) if forth else (span[1], span[0])


def is_way(net, thing):
    """Whether a thing is a way, be it the empty one."""
    if not isinstance(thing, tuple) or not all([is_step(net, step) for step in thing]):
        return False
    ends = [step_ends(net, step) for step in thing]
    return all([ahead[1] == behind[0] for ahead, behind in zip(ends, ends[1:])])


def is_ring(net, thing):
    """Whether a thing is a way that is not empty and ends where it begins."""
    if not is_way(net, thing) or len(thing) == 0:
        return False
    return step_ends(net, thing[0])[0] == step_ends(net, thing[-1])[1]


def way_ends(net, way):
    """The pair of the events at which a way begins and ends."""
    if not is_way(net, way) or len(way) == 0:
        raise BadWay()
    return step_ends(net, way[0])[0], step_ends(net, way[-1])[1]


def backward(net, way):
    """The way gone back."""
    if not is_way(net, way):
        raise BadWay()
    return tuple([(index, not forth) for index, forth in way[::-1]])


def tree(net):
    """The indexes of the spans that join what no span of the tree ahead of them joins."""
    heads = list(range(net.events))
    found = []
    for index, span in enumerate(net.spans):
        if heads[span[0]] != heads[span[1]]:
            found.append(index)
            heads = joined(heads, span[0], span[1])
    return tuple(found)


def chords(net):
    """The indexes of the spans that are not of the tree, in order: one for each ring of the base."""
    within = tree(net)
    return [index for index in range(len(net.spans)) if index not in within]


def tree_ways(net, start):
    """The tree way from an event to each event of its piece."""
    steps = [(index, forth) for index in tree(net) for forth in (True, False)]
    found = {start: ()}
    fresh = [start]
    while fresh:
        event = fresh.pop()
        for step in steps:
            here, there = step_ends(net, step)
            if here == event and there not in found:
                found[there] = found[event] + (step,)
                fresh.append(there)
    return found


def tree_way(net, one, other):
    """The tree way from one event to another one, None for events of unlike pieces."""
    for event in (one, other):
        if not is_event(net, event):
            raise BadEvent(event)
    return tree_ways(net, one).get(other)


def base(net):
    """For each span that is not of the tree, in order, the ring of it and the tree way back."""
    rings = []
    for index in chords(net):
        i, j = step_ends(net, (index, True))
        rings.append(((index, True),) + tree_ways(net, j)[i])
    return rings


def turns(net, way):
    """For each span how often a way goes along it forth, less how often back."""
    counts = [0] * len(net.spans)
    for index, forth in way:
        counts[index] = counts[index] + (1 if forth else -1)
    return counts


def by_base(net, ring):
    """For each ring of the base how often, in all, a ring goes along its first span forth."""
    if not is_ring(net, ring):
        raise BadRing()
    counts = turns(net, ring)
    return tuple([counts[index] for index in chords(net)])
