"""How like events follow one another, evenly over the beat or as in a mirror."""

from likespans.errors import BadEvent, BadLikeness, NotEven, OtherPiece
from likespans.evening import keeps_lengths
from likespans.islands import rounds
from likespans.likes import indexes_led, is_likeness, times_round, way_led
from likespans.ratios import Ratio, plain, rest_of
from likespans.timetables import lengths
from likespans.ways import is_event, tree_way


def check_way(net, likeness, forth):
    """Raises an error if a thing is no likeness that is forth, or no one that is not."""
    if not is_likeness(net, likeness) or likeness[1] != forth:
        raise BadLikeness()


def way_to_like(net, likeness, timetable, event):
    """The tree way from an event to the one to which it is led, in a timetable even for the likeness alone."""
    if not keeps_lengths(net, [likeness], lengths(net, timetable)):
        raise NotEven()
    if not is_event(net, event):
        raise BadEvent(event)
    way = tree_way(net, event, likeness[0][event])
    if way is None:
        raise OtherPiece()
    return way


def spacing(net, likeness, timetable, event):
    """How often an event is led until it is led to itself, the rounds on the way, and the ring of it."""
    check_way(net, likeness, True)
    way = way_to_like(net, likeness, timetable, event)
    many = times_round(likeness[0], event)
    if many == 1:
        return (1, 0, ())
    indexes = indexes_led(net, likeness)
    ring = ()
    for _ in range(many):
        ring = ring + way
        way = way_led(indexes, True, way)
    return (many, rounds(net, timetable, ring) % many, ring)


def mirror_moments(net, likeness, timetable, event):
    """The two moments of the beat about which a piece is its own mirror."""
    check_way(net, likeness, False)
    way_to_like(net, likeness, timetable, event)
    both = rest_of(timetable[event] + timetable[likeness[0][event]], net.beat)
    half = Ratio(1, 2)
    return (plain(half * both), plain(half * (both + net.beat)))
