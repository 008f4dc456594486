"""Moves: ways from timetable to timetable, minute by minute, with no span broken."""

from likespans.errors import BadMove, BadMoves, BadTimetable, Broken
from likespans.islands import island_of, places, rounds
from likespans.nets import pieces
from likespans.ratios import is_integer, plain, rest_of, whole_below
from likespans.timetables import first_broken, is_timetable, is_whole, reached
from likespans.ways import base, is_event, is_ring


def is_block(net, thing):
    """Whether a thing is an ascending tuple of unlike events, not empty."""
    if not isinstance(thing, tuple) or len(thing) == 0:
        return False
    if not all([is_event(net, event) for event in thing]):
        return False
    return all([ahead < behind for ahead, behind in zip(thing, thing[1:])])


def is_move(net, thing):
    """Whether a thing is a pair of a block and the integer 1 or -1."""
    if not isinstance(thing, tuple) or len(thing) != 2:
        return False
    return is_block(net, thing[0]) and is_integer(thing[1]) and thing[1] in (1, -1)


def stepped(net, moments, move):
    """The moments behind a move, whether they break a span or not."""
    block, up = move
    changed = list(moments)
    for event in block:
        changed[event] = rest_of(changed[event] + up, net.beat)
    return tuple(changed)


def as_plain(timetable):
    """The same timetable, with integers where it is whole."""
    return tuple([plain(moment) for moment in timetable])


def moved(net, timetable, move):
    """The timetable behind a move."""
    if not is_timetable(net, timetable):
        raise BadTimetable()
    if not is_move(net, move):
        raise BadMove()
    moments = stepped(net, as_plain(timetable), move)
    index = first_broken(net, moments)
    if index is not None:
        raise Broken(index)
    return moments


def rooms(net, timetable):
    """For each span its ends, and the least and the most whole minutes by which its length may change."""
    found = []
    for (i, j, low, high), number in zip(net.spans, reached(net, timetable)):
        found.append((i, j, -whole_below(number - low), whole_below(high - number)))
    return found


def led_all(net, timetable, moves):
    """The moments behind moves, and None; or None, and the index of the first one that fails.

    Moves may be many: so only whole minutes are counted on the way.
    """
    spare = rooms(net, timetable)
    changes = [0] * net.events
    for index, move in enumerate(moves):
        if not is_move(net, move):
            return None, index
        for event in move[0]:
            changes[event] = changes[event] + move[1]
        if not all([least <= changes[j] - changes[i] <= most for i, j, least, most in spare]):
            return None, index
    return tuple([rest_of(moment + more, net.beat) for moment, more in zip(as_plain(timetable), changes)]), None


def led(net, timetable, moves):
    """The timetable behind a row of moves."""
    if not is_timetable(net, timetable):
        raise BadTimetable()
    if not isinstance(moves, (list, tuple)):
        raise BadMoves(-1)
    moments, fault = led_all(net, timetable, moves)
    if fault is not None:
        raise BadMoves(fault)
    return moments


def differences(net, one, other):
    """For each piece the events and by how much the one timetable is to be moved there, by places."""
    ahead = places(net, one)
    behind = places(net, other)
    found = []
    for piece in pieces(net):
        more = other[piece[0]] - one[piece[0]]
        found.append([(event, behind[event] - ahead[event] + more) for event in piece])
    return found


def brought_below(beat, moves, most):
    """The differences of a piece, whole beats more or less, the greatest as little below most as can be."""
    greatest = max([many for event, many in moves])
    more = (most - greatest) // beat * beat
    return [(event, many + more) for event, many in moves]


def least_differences(net, one, other):
    """By how much each event is to be moved, such that the fewest moves do it.

    Whole beats more or less for a piece lead to the same timetable. Each move moves a block of any
    pieces, so the moves are as many as the greatest way up and the greatest way down together. For each
    most that the way up may be, each piece is best brought as near below it as can be; no most from the
    beat on is better than the one a beat less, and one between is no better than the next lesser one at
    which a piece ends.
    """
    parted = differences(net, one, other)
    mosts = [0] + [max([many for event, many in moves]) % net.beat for moves in parted]
    tried = []
    for most in mosts:
        flat = [0] * net.events
        for moves in parted:
            for event, many in brought_below(net.beat, moves, most):
                flat[event] = many
        tried.append((max(flat + [0]) - min(flat + [0]), flat))
    return min(tried)[1]


def moves_along(flat):
    """The moves by which each event is moved by its difference: first all up, then all down.

    Between, each event stands at the lesser one of two timetables, or at the greater one of two: so
    no span is broken.
    """
    moves = []
    for done in range(max(flat + [0])):
        moves.append((tuple([event for event, many in enumerate(flat) if many > done]), 1))
    for done in range(-min(flat + [0])):
        moves.append((tuple([event for event, many in enumerate(flat) if -many > done]), -1))
    return moves


def way_to(net, one, other):
    """The fewest moves that lead from one timetable to another one, or a ring of unlike rounds."""
    for timetable in (one, other):
        if not is_whole(net, timetable):
            raise BadTimetable()
    for ring, first, second in zip(base(net), island_of(net, one), island_of(net, other)):
        if first != second:
            return ("ring", ring, first, second)
    return ("moves", moves_along(least_differences(net, as_plain(one), as_plain(other))))


def is_told(name, many, thing):
    """Whether a thing is a tuple of so many things, the first one this string."""
    if not isinstance(thing, tuple) or len(thing) != many:
        return False
    return isinstance(thing[0], str) and thing[0] == name


def is_led(net, one, other, thing):
    """Whether a thing is a list of moves that lead from one timetable to another one."""
    if not isinstance(thing, list):
        return False
    return led_all(net, one, thing)[0] == as_plain(other)


def unlike_rounds(net, one, other, ring, first, second):
    """Whether a ring has these rounds in one timetable and in another one, and they are unlike."""
    if not is_ring(net, ring) or not is_integer(first) or not is_integer(second):
        return False
    return first != second and rounds(net, one, ring) == first and rounds(net, other, ring) == second


def is_way_to(net, one, other, thing):
    """Whether a thing is what way_to tells, with however many moves or any ring."""
    if is_told("moves", 2, thing):
        return is_led(net, one, other, thing[1])
    return is_told("ring", 4, thing) and unlike_rounds(net, one, other, thing[1], thing[2], thing[3])
