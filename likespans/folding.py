"""Folded nets: like events and like spans made one, with so much a shorter beat, and unfolded again."""

from likespans.errors import BadTimes, BadTimetable, Clash, NoFold, NotEven
from likespans.evening import is_even
from likespans.likes import check_likeness, indexes_led, times_round
from likespans.nets import LEAST_BEAT, Net
from likespans.ratios import is_below, rest_of
from likespans.timetables import beats_over, is_timetable, shift_between, tree_places, way_sum
from likespans.ways import base


def folding(net, likeness):
    """By how many times a likeness folds a net, 0 if it folds none.

    A span that is led to itself has ends that are: so the events alone are asked.
    """
    check_likeness(net, likeness)
    moved, forth = likeness
    many = times_round(moved, 0)
    if not forth or many == 1 or net.beat % many != 0 or net.beat // many < LEAST_BEAT:
        return 0
    if not all([times_round(moved, event) == many for event in range(net.events)]):
        return 0
    narrow = all([high - low <= net.beat // many - 2 for i, j, low, high in net.spans])
    return many if narrow else 0


def lists_and_steps(led):
    """For each thing the number of its list of those led to one another, and how often its first one is led to it.

    The lists are numbered in the order of their first ones.
    """
    numbers = [None] * len(led)
    steps = [0] * len(led)
    many = 0
    for first in range(len(led)):
        if numbers[first] is not None:
            continue
        at = first
        times = 0
        while numbers[at] is None:
            numbers[at] = many
            steps[at] = times
            at = led[at]
            times += 1
        many += 1
    return tuple(numbers), tuple(steps)


def first_spans(net, likeness):
    """The first span of each list of those that are led to one another."""
    steps = lists_and_steps(indexes_led(net, likeness))[1]
    return [span for span, times in zip(net.spans, steps) if times == 0]


def folded(net, likeness):
    """The folded net, and for each event its event there and the steps to it from the first one of its list."""
    many = folding(net, likeness)
    if many == 0:
        raise NoFold()
    events, steps = lists_and_steps(likeness[0])
    spans = [(events[i], events[j], low, high) for i, j, low, high in first_spans(net, likeness)]
    if any([span[0] == span[1] for span in spans]) or len(set(spans)) < len(spans):
        raise Clash()
    return (Net(net.beat // many, max(events) + 1, spans), events, steps)


def turns_of(net, likeness, steps):
    """The turn of each span of the folded net."""
    return [steps[j] - steps[i] for i, j, low, high in first_spans(net, likeness)]


def laid_out(net, likeness, timetable, times):
    """What unfolded tells, for right arguments.

    By how many short beats the first event of each list is later than its moment there, this is found
    along the tree of the folded net, as places are.
    """
    other, events, steps = folded(net, likeness)
    turns = turns_of(net, likeness, steps)
    more = [beats - times * turn for beats, turn in zip(beats_over(other, timetable), turns)]
    for ring in base(other):
        if way_sum(more, ring) % (net.beat // other.beat) != 0:
            return ("ring", ring)
    later = tree_places(other, more)
    moments = []
    for number, step in zip(events, steps):
        moments.append(rest_of(timetable[number] + (later[number] + times * step) * other.beat, net.beat))
    return ("timetable", tuple(moments))


def unfolded(net, likeness, timetable, times):
    """The timetable in which like events follow one another so, or a ring that bars it."""
    other = folded(net, likeness)[0]
    if not is_timetable(other, timetable):
        raise BadTimetable()
    if not is_below(net.beat // other.beat, times):
        raise BadTimes(times)
    return laid_out(net, likeness, timetable, times)


def folds_to(net, likeness, timetable):
    """The timetable of the folded net and the least times that make an even timetable, None if there are none."""
    other, events, steps = folded(net, likeness)
    if not is_timetable(net, timetable):
        raise BadTimetable()
    if not is_even(net, [likeness], timetable):
        raise NotEven()
    moments = tuple([rest_of(moment, other.beat) for moment, step in zip(timetable, steps) if step == 0])
    # Where pieces are exchanged the first events may stand by any numbers apart.
    if not is_timetable(other, moments):
        return None
    for times in range(net.beat // other.beat):
        name, told = laid_out(net, likeness, moments, times)
        if name == "timetable" and shift_between(net, told, timetable) is not None:
            return (moments, times)
    return None
