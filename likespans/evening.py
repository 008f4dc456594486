"""Even timetables, in which like spans have the same length."""

from math import lcm

from likespans.errors import BadMost, BadTimetable, NotEven
from likespans.images import base_led, image, kept_by
from likespans.islands import check_island, islands, places
from likespans.likes import group, indexes_led, is_likeness, like_spans, way_led
from likespans.moving import as_plain, is_led, is_told, moves_along
from likespans.ratios import Ratio, bottom_of, is_integer, plain
from likespans.timetables import (
    from_lengths, is_timetable, is_whole, lengths, shift_between, tree_places, way_sum,
)
from likespans.ways import base, is_ring, turns

MOST_PARTS = 6


class FinerNet:
    """The events and spans of a net, with a beat and bounds so many times as great.

    It is a net for timetables and moves, though its numbers may be greater than those of any Net.
    """

    def __init__(self, net, parts):
        self.beat = net.beat * parts
        self.events = net.events
        self.spans = tuple([(i, j, low * parts, high * parts) for i, j, low, high in net.spans])


def keeps_lengths(net, lot, row):
    """Whether like spans have the same length: so it is where each likeness of the lot leads each one so.

    This needs no group, which may be great even for one likeness.
    """
    return all([[row[index] for index in indexes_led(net, likeness)] == list(row) for likeness in lot])


def mean_lengths(net, lot, timetable):
    """For each span the mean of the lengths of the spans like it."""
    alike = like_spans(net, lot)
    row = lengths(net, timetable)
    means = list(row)
    for indexes in alike:
        mean = plain(Ratio(1, len(indexes)) * sum([row[index] for index in indexes]))
        for index in indexes:
            means[index] = mean
    return tuple(means)


def rounds_led(net, likenesses, row, ring):
    """The rounds, where the spans have these lengths, of the rings to which likenesses lead a ring."""
    found = []
    for likeness in likenesses:
        there = way_led(indexes_led(net, likeness), likeness[1], ring)
        found.append(way_sum(row, there) // net.beat)
    return tuple(found)


def evened(net, lot, timetable):
    """The timetable with the mean lengths, or a ring that bars it, with the rounds of those like it."""
    name, told = from_lengths(net, mean_lengths(net, lot, timetable))
    if name == "timetable":
        return ("even", told)
    return ("ring", told, rounds_led(net, group(net, lot), lengths(net, timetable), told))


def are_integers(thing):
    """Whether a thing is a tuple of integers alone."""
    return isinstance(thing, tuple) and all([is_integer(many) for many in thing])


def bars_mean(net, lot, timetable, ring, rows):
    """Whether a ring and these rounds of the rings like it show that the mean lengths are no timetable's."""
    if not is_ring(net, ring) or not are_integers(rows):
        return False
    right = rounds_led(net, group(net, lot), lengths(net, timetable), ring)
    return rows == right and sum(right) % len(right) != 0


def is_evened(net, lot, timetable, thing):
    """Whether a thing is what evened tells, with any ring."""
    if is_told("even", 2, thing):
        return is_timetable(net, thing[1]) and thing == evened(net, lot, timetable)
    return is_told("ring", 3, thing) and bars_mean(net, lot, timetable, thing[1], thing[2])


def unlike_rings(net, lot, timetable):
    """A ring, a likeness of the lot, and the unlike rounds of it and of the ring led to; None if there are none."""
    row = lengths(net, timetable)
    for likeness in lot:
        for ring in base(net):
            first = way_sum(row, ring) // net.beat
            second = rounds_led(net, [likeness], row, ring)[0]
            if first != second:
                return (ring, likeness, first, second)
    return None


def parts_of(row):
    """The least number of parts of a minute in which all numbers of a row are whole."""
    parts = 1
    for number in row:
        parts = lcm(parts, bottom_of(number))
    return parts


def changes_to(net, timetable, row, parts):
    """By how many parts of a minute each event is to be moved to where these lengths place it."""
    ahead = places(net, timetable)
    return [plain((there - here) * parts) for here, there in zip(ahead, tree_places(net, row))]


def evened_by_moves(net, lot, timetable):
    """The moves that lead to the mean lengths, in parts of a minute, or two like rings of unlike rounds."""
    row = mean_lengths(net, lot, timetable)
    if not is_whole(net, timetable):
        raise BadTimetable()
    unlike = unlike_rings(net, lot, timetable)
    if unlike is not None:
        return ("rings",) + unlike
    parts = parts_of(row)
    return ("even", parts, moves_along(changes_to(net, timetable, row, parts)))


def is_led_even(net, lot, timetable, parts, moves):
    """Whether parts are the least ones, and moves lead to the mean lengths in them."""
    row = mean_lengths(net, lot, timetable)
    if unlike_rings(net, lot, timetable) is not None or not is_integer(parts) or parts != parts_of(row):
        return False
    finer = FinerNet(net, parts)
    start = tuple([moment * parts for moment in as_plain(timetable)])
    changes = changes_to(net, timetable, row, parts)
    aim = tuple([(moment + more) % finer.beat for moment, more in zip(start, changes)])
    return is_led(finer, start, aim, moves)


def are_unlike(net, lot, timetable, thing):
    """Whether a thing tells of a ring and a likeness of the lot by which like rings have unlike rounds."""
    ring, likeness, first, second = thing
    if not is_ring(net, ring) or not are_integers((first, second)) or first == second:
        return False
    if not is_likeness(net, likeness) or likeness not in lot:
        return False
    row = lengths(net, timetable)
    return first == way_sum(row, ring) // net.beat and second == rounds_led(net, [likeness], row, ring)[0]


def is_evened_by_moves(net, lot, timetable, thing):
    """Whether a thing is what evened_by_moves tells, with however many moves or any ring."""
    if is_told("even", 3, thing):
        return is_led_even(net, lot, timetable, thing[1], thing[2])
    return is_told("rings", 5, thing) and are_unlike(net, lot, timetable, thing[1:])


def is_even(net, lot, thing):
    """Whether a thing is an even timetable."""
    return is_timetable(net, thing) and keeps_lengths(net, lot, lengths(net, thing))


def shifts(net, lot, timetable):
    """For each likeness of the group and each piece by how much the image is to be shifted there."""
    likenesses = group(net, lot)
    if not is_timetable(net, timetable):
        raise BadTimetable()
    if not is_even(net, lot, timetable):
        raise NotEven()
    return [shift_between(net, image(net, likeness, timetable), timetable) for likeness in likenesses]


def sums_of(weights, mosts):
    """The sums of each weight up to so many times, each with a row of such times."""
    found = {0: ()}
    for weight, most in zip(weights, mosts):
        further = {}
        for total in found:
            for times in range(most + 1):
                further.setdefault(total + weight * times, found[total] + (times,))
        found = further
    return found


def times_for(weights, mosts, aim):
    """So many times each weight, up to so many, that the sum is the aim; None if there are none such.

    Two halves are summed apart: so few sums are made of many rows.
    """
    half = len(weights) // 2
    ahead = sums_of(weights[:half], mosts[:half])
    rest = sums_of(weights[half:], mosts[half:])
    for total in ahead:
        if aim - total in rest:
            return ahead[total] + rest[aim - total]
    return None


def as_one(lines, needs, mosts):
    """The weights and the aim of one sum that stands for the sums of several lines.

    No line can miss its need by as much as half the factor by which the next line counts more.
    """
    widest = 1
    for line, need in zip(lines, needs):
        widest = max(widest, abs(need) + sum([abs(many) * most for many, most in zip(line, mosts)]))
    weights = [0] * len(mosts)
    aim = 0
    for line, need in zip(lines, needs):
        weights = [weight * (2 * widest + 1) + many for weight, many in zip(weights, line)]
        aim = aim * (2 * widest + 1) + need
    return weights, aim


def even_lines(net, alike, island):
    """For each ring of the base how often in all it goes along each list of like spans, and what is needed.

    What is needed is the sum of the lengths of the ring in the island, less that of the lows.
    """
    lines = []
    needs = []
    for ring, many in zip(base(net), island):
        counts = turns(net, ring)
        lines.append([sum([counts[index] for index in indexes]) for indexes in alike])
        needs.append(many * net.beat - sum([times * span[2] for times, span in zip(counts, net.spans)]))
    return lines, needs


def least_parts(net, lot, island, most):
    """The least parts of a minute in which an island has an even timetable, and such a one."""
    alike = like_spans(net, lot)
    check_island(net, island)
    if not is_integer(most) or not 1 <= most <= MOST_PARTS:
        raise BadMost(most)
    lines, needs = even_lines(net, alike, island)
    for parts in range(1, most + 1):
        mosts = [(net.spans[indexes[0]][3] - net.spans[indexes[0]][2]) * parts for indexes in alike]
        weights, aim = as_one(lines, [need * parts for need in needs], mosts)
        found = times_for(weights, mosts, aim)
        if found is not None:
            row = [span[2] for span in net.spans]
            for indexes, times in zip(alike, found):
                for index in indexes:
                    row[index] = plain(row[index] + Ratio(times, parts))
            return ("parts", parts, from_lengths(net, row)[1])
    return None


def even_islands(net, lot):
    """The ascending list of the islands that have an even timetable: those that the lot keeps."""
    group(net, lot)
    leads = [base_led(net, likeness) for likeness in lot]
    return [island for island in islands(net) if kept_by(leads, island)]
