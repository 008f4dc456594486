"""Rounds of rings, and the islands of timetables with the same rounds."""

from likespans.distances import all_distances, limits, settled, turned, window
from likespans.errors import BadIsland, BadRing, BadTimetable, TooMany
from likespans.nets import pieces
from likespans.ratios import is_integer
from likespans.timetables import is_timetable, lengths, tree_places, way_sum
from likespans.ways import base, by_base, chords, is_ring, turns

MOST_TIMETABLES = 3000


def rounds(net, timetable, ring):
    """The sum of the lengths on a ring, in beats."""
    if not is_timetable(net, timetable):
        raise BadTimetable()
    if not is_ring(net, ring):
        raise BadRing()
    return way_sum(lengths(net, timetable), ring) // net.beat


def island_of(net, timetable):
    """The tuple of the rounds of the rings of the base."""
    row = lengths(net, timetable)
    return tuple([way_sum(row, ring) // net.beat for ring in base(net)])


def is_row(net, thing):
    """Whether a thing is a tuple of an integer for each ring of the base."""
    if not isinstance(thing, tuple) or len(thing) != len(chords(net)):
        return False
    return all([is_integer(many) for many in thing])


def rounds_by(net, island, ring):
    """The rounds of a ring where the rings of the base have these rounds."""
    if not is_row(net, island):
        raise BadIsland(-1)
    return sum([many * times for many, times in zip(island, by_base(net, ring))])


def sum_bounds(net, ring):
    """The least and the greatest sum of lengths within the bounds on a ring.

    What is gone forth and back of a span cancels out, for it has one length.
    """
    least = 0
    greatest = 0
    for times, span in zip(turns(net, ring), net.spans):
        ends = [times * span[2], times * span[3]]
        least = least + min(ends)
        greatest = greatest + max(ends)
    return least, greatest


def rows_within(net):
    """The ascending list of the rows of rounds that each ring of the base allows by itself."""
    ranges = []
    for ring in base(net):
        least, greatest = sum_bounds(net, ring)
        ranges.append((-(-least // net.beat), greatest // net.beat))
    # A ring that allows none is looked for first: the rows of the other ones may be too many to make.
    if any([least > greatest for least, greatest in ranges]):
        return []
    rows = [()]
    for least, greatest in ranges:
        rows = [row + (many,) for row in rows for many in range(least, greatest + 1)]
    return rows


def islands(net):
    """The ascending list of all islands."""
    firsts = chords(net)
    every = list(range(net.events))
    found = []
    for row in rows_within(net):
        if settled(net.events, limits(net, firsts, row), every)[1] is None:
            found.append(row)
    return found


def barring(net, row):
    """A ring that bars a row of rounds, None where it is an island."""
    if not is_row(net, row):
        raise BadIsland(-1)
    return settled(net.events, limits(net, chords(net), row), list(range(net.events)))[1]


def held(net, row):
    """The leader of an island, or a ring that bars the row of rounds."""
    ring = barring(net, row)
    if ring is not None:
        return ("ring", ring)
    return ("timetable", leader(net, row))


def is_barring(net, row, thing):
    """Whether a thing is a ring whose rounds by the row are beyond what its bounds allow."""
    if not is_ring(net, thing):
        return False
    least, greatest = sum_bounds(net, thing)
    return not least <= net.beat * rounds_by(net, row, thing) <= greatest


def check_island(net, thing):
    """Raises an error if a thing is no island."""
    if barring(net, thing) is not None:
        raise BadIsland(-2)


def island_limits(net, island):
    """The arcs between the places of the events in an island."""
    check_island(net, island)
    return limits(net, chords(net), island)


def first_events(net):
    """The first event of each piece."""
    return [piece[0] for piece in pieces(net)]


def leader(net, island):
    """The whole timetable of an island with the least places."""
    arcs = turned(island_limits(net, island))
    sums = settled(net.events, arcs, first_events(net))[0]
    return tuple([-most % net.beat for most in sums])


def last(net, island):
    """The whole timetable of an island with the greatest places."""
    arcs = island_limits(net, island)
    sums = settled(net.events, arcs, first_events(net))[0]
    return tuple([most % net.beat for most in sums])


def places(net, timetable):
    """The tuple of the places of the events."""
    return tree_places(net, lengths(net, timetable))


def timetables(net, island):
    """The ascending list of the whole timetables of an island that begin at 0."""
    distances = all_distances(net.events, island_limits(net, island))
    rows = [()]
    for event in range(net.events):
        known = [other for other in range(event) if distances[event][other] is not None]
        spots = [(row, window(distances, known, [row[other] for other in known], event)) for row in rows]
        # No row is a dead end, so there are never fewer timetables than rows.
        if sum([greatest - least + 1 for row, (least, greatest) in spots]) > MOST_TIMETABLES:
            raise TooMany(MOST_TIMETABLES)
        rows = [row + (at,) for row, (least, greatest) in spots for at in range(least, greatest + 1)]
    return sorted([tuple([place % net.beat for place in row]) for row in rows])


def neighbours(net):
    """For each event the events at the other ends of its spans."""
    found = [[] for _ in range(net.events)]
    for span in net.spans:
        found[span[0]].append(span[1])
        found[span[1]].append(span[0])
    return found


def still_open(near, placed):
    """The placed events with a neighbour that is not placed."""
    return [event for event in placed if not all([other in placed for other in near[event]])]


def placing(net):
    """The events in an order, piece by piece, that leaves few open ones; behind each these."""
    near = neighbours(net)
    steps = []
    for piece in pieces(net):
        placed = []
        fresh = [piece[0]]
        while fresh:
            event = min([(len(still_open(near, placed + [other])), other) for other in fresh])[1]
            placed.append(event)
            steps.append((event, still_open(near, placed)))
            fresh = [other for other in piece if other not in placed and any([at in placed for at in near[other]])]
    return steps


def open_places(known, event, place, still):
    """The places of the events that are still open, told from the first of them on."""
    if event in still:
        known = known + [(event, place)]
    kept = [at for other, at in known if other in still]
    return tuple([at - kept[0] for at in kept])


def whole_of(net, steps, distances):
    """The number of the whole timetables of an island that begin at 0.

    They are counted by the places of the open events alone: what comes behind depends on no others.
    """
    states = {(): 1}
    known = []
    for event, still in steps:
        spots = [(state, window(distances, known, state, event)) for state in states]
        many = sum([states[state] * (greatest - least + 1) for state, (least, greatest) in spots])
        if many > MOST_TIMETABLES:
            raise TooMany(MOST_TIMETABLES)
        behind = {}
        for state, (least, greatest) in spots:
            for place in range(least, greatest + 1):
                seen = open_places(list(zip(known, state)), event, place, still)
                behind[seen] = behind.get(seen, 0) + states[state]
        states = behind
        known = still
    return states[()]


def all_whole(net):
    """The number of all whole timetables that begin at 0, over all islands."""
    firsts = chords(net)
    steps = placing(net)
    total = 0
    for island in islands(net):
        distances = all_distances(net.events, limits(net, firsts, island))
        total = total + whole_of(net, steps, distances)
    return total
