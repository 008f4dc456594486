"""Even timetables: points 8.1 to 8.5."""

import copy
import itertools
import random
import time
import unittest
from fractions import Fraction

from likespans.evening import (
    as_one, even_islands, evened, evened_by_moves, is_evened, is_evened_by_moves, is_even, least_parts, mean_lengths,
    shifts, times_for,
)
from likespans.images import image, is_kept
from likespans.islands import island_of, islands
from likespans.likes import group, like_spans
from likespans.nets import Net, pieces
from likespans.ratios import Ratio
from likespans.timetables import from_lengths, is_timetable, lengths, shifted
from likespans.ways import base
from tests.slow import (
    alike_net, even_slowly, slow_group, slow_lengths, slow_like_spans, slow_ring_led, slow_sum, slow_timetables,
)
from tests.test_images import three
from tests.test_likes import MIRROR, OTHER, ROUND, SAME, not_likenesses, turned, wheel
from tests.things import error_of, fraction, is_plain, line, ratio, things

HALF = Ratio(1, 2)
RIGHT = (0, 3, 5, 8)
TURN = [((1, 0), True)]


def cross():
    """A net of two like rings in one piece, a timetable in which they have unlike rounds, and the lot."""
    net = Net(6, 4, ((0, 3, 4, 8), (0, 3, 2, 5), (1, 2, 2, 5), (1, 2, 4, 8)))
    return net, [((3, 2, 1, 0), False), ((1, 0, 3, 2), True)], (5, 1, 3, 3)


def hidden():
    """A net, a lot and a timetable whose mean lengths are a timetable's, though like rings have unlike rounds."""
    net = Net(5, 4, ((2, 1, 0, 3), (0, 3, 0, 3), (2, 3, 0, 3), (0, 1, 0, 3)))
    return net, [((1, 2, 3, 0), False)], (0, 2, 2, 0)


def samples(seed, many, each):
    """Nets made by chance, each with a lot and some of its whole timetables."""
    chance = random.Random(seed)
    found = []
    for _ in range(many):
        net, lot = alike_net(chance)
        rows = slow_timetables(net)
        for moments in chance.sample(rows, min(len(rows), each)):
            found.append((net, lot, moments))
    return found


def slow_means(net, lot, row):
    """The means of the lengths of like spans, as Fractions."""
    means = [None] * len(row)
    for alike in slow_like_spans(net, lot):
        for index in alike:
            means[index] = Fraction(sum([row[other] for other in alike]), len(alike))
    return means


def all_spoiled(thing):
    """A tuple spoiled in many ways: cut, lengthened, or with another thing in each place, also inside."""
    found = [thing[:-1], thing + (0,), list(thing), None, ()]
    for at, part in enumerate(thing):
        others = [None, True, "x", [part], (part,), -1, 10 ** 30, ()]
        if isinstance(part, int):
            others = others + [part + 1, part - 1, Ratio(2 * part + 1, 2), str(part)]
        if isinstance(part, str):
            others = others + [part + "s", part[:-1], part.upper(), part.encode()]
        if isinstance(part, tuple) and part:
            others = others + all_spoiled(part)
        found = found + [thing[:at] + (other,) + thing[at + 1:] for other in others if other != part]
    return found


class MeanTest(unittest.TestCase):

    def test_whole_and_not(self):
        for lot, moments, told in [
            ([MIRROR], RIGHT, (3, 2, 3, 2)), ([OTHER], (0, 2, 4, 8), (3, 2, 3, 2)),
            ([ROUND], (0, 2, 5, 8), (Ratio(5, 2), Ratio(5, 2), Ratio(5, 2), Ratio(5, 2))),
            ([], (0, 2, 5, 8), (2, 3, 3, 2)), ((OTHER,), (0, 2, 5, 8), (Ratio(5, 2), 3, Ratio(5, 2), 2)),
            ([MIRROR, ROUND], (0, HALF + 2, 5, 8), (Ratio(11, 4), Ratio(9, 4), Ratio(11, 4), Ratio(9, 4))),
            ([ROUND], (Ratio(0, 1), Ratio(5, 2), 5, Ratio(15, 2)), (Ratio(5, 2),) * 4),
        ]:
            found = mean_lengths(line(), lot, moments)
            self.assertEqual(found, told)
            self.assertTrue(all([is_plain(number) for number in found]))

    def test_against_fractions(self):
        for net, lot, moments in samples(81, 120, 3):
            found = mean_lengths(net, lot, moments)
            self.assertEqual([fraction(number) for number in found], slow_means(net, lot, slow_lengths(net, moments)))
            self.assertTrue(all([is_plain(number) for number in found]))

    def test_errors(self):
        for call in (mean_lengths, evened, evened_by_moves, shifts):
            for thing in [thing for thing, told in not_likenesses()] + things():
                self.assertEqual(error_of(call, line(), [MIRROR, thing], None), ("BadLot", 1))
            for thing in things():
                if not isinstance(thing, (list, tuple)):
                    self.assertEqual(error_of(call, line(), thing, RIGHT), ("BadLot", -1))
            for thing in things() + [(0, 3, 7, 9), list(RIGHT)]:
                self.assertEqual(error_of(call, line(), [MIRROR], thing), ("BadTimetable",))
            self.assertEqual(error_of(call, line(), [MIRROR] * 7, None), ("BadLot", -1))
            net = Net(5, 24, ())
            self.assertEqual(error_of(call, net, [(turned((5, 7)), False)], None), ("TooMany", 48))


class EvenedTest(unittest.TestCase):

    def test_even_ones(self):
        self.assertEqual(evened(line(), [MIRROR], RIGHT), ("even", RIGHT))
        self.assertEqual(evened(line(), [MIRROR], (1, 4, 6, 9)), ("even", RIGHT))
        self.assertEqual(evened(line(), [ROUND], (0, 2, 5, 8)), ("even", (0, Ratio(5, 2), 5, Ratio(15, 2))))
        self.assertEqual(evened(line(), [], (3, 5, 8, 1)), ("even", (0, 2, 5, 8)))
        net, lot, moments = hidden()
        self.assertEqual(evened(net, lot, moments), ("even", (0, Ratio(5, 4), 0, Ratio(5, 4))))

    def test_a_ring(self):
        net, lot, moments = cross()
        self.assertEqual(evened(net, lot, moments), ("ring", ((1, True), (0, False)), (0, -1, -1, 0)))

    def test_against_sums(self):
        told = set()
        for net, lot, moments in samples(82, 500, 4):
            row = slow_lengths(net, moments)
            means = slow_means(net, lot, row)
            found = evened(net, lot, moments)
            self.assertIs(is_evened(net, lot, moments, found), True)
            told.add(found[0])
            bars = [ring for ring in base(net) if slow_sum(means, ring) % net.beat != 0]
            if found[0] == "even":
                self.assertEqual(bars, [])
                self.assertTrue(is_timetable(net, found[1]))
                self.assertEqual([fraction(number) for number in lengths(net, found[1])], means)
                self.assertEqual({found[1][piece[0]] for piece in pieces(net)} - {0}, set())
                self.assertTrue(even_slowly(net, lot, means))
                self.assertTrue(all([is_plain(moment) for moment in found[1]]))
            else:
                self.assertNotEqual(bars, [])
                name, ring, rows = found
                every = slow_group(net, lot)
                self.assertEqual(rows, tuple([slow_sum(row, slow_ring_led(net, one, ring)) // net.beat for one in every]))
                self.assertNotEqual(sum(rows) % len(every), 0)
        self.assertEqual(told, {"even", "ring"})

    def test_is_evened_with_any_ring_and_equal_numbers(self):
        net, lot, moments = cross()
        for ring, rows in [
            (((0, True), (1, False)), (0, 1, 1, 0)), (((2, True), (3, False)), (-1, 0, 0, -1)),
            (((1, True), (0, False)) * 3, (0, -3, -3, 0)), (((0, False), (1, True)), (0, -1, -1, 0)),
        ]:
            self.assertIs(is_evened(net, lot, moments, ("ring", ring, rows)), True)
            self.assertIs(is_evened(net, lot, moments, ("ring", ring, tuple([many + 1 for many in rows]))), False)
        # Gone round twice the mean is whole.
        twice = ((1, True), (0, False)) * 2
        self.assertIs(is_evened(net, lot, moments, ("ring", twice, (0, -2, -2, 0))), False)
        self.assertIs(is_evened(net, lot, moments, ("ring", ((0, True), (0, False)), (0, 0, 0, 0))), False)
        self.assertIs(is_evened(net, lot, moments, ("even", moments)), False)
        as_ratios = ("even", tuple([Ratio(moment, 1) for moment in RIGHT]))
        self.assertIs(is_evened(line(), [MIRROR], RIGHT, as_ratios), True)
        self.assertIs(is_evened(line(), [MIRROR], (1, 4, 6, 9), ("even", (1, 4, 6, 9))), False)

    def test_is_evened_spoiled(self):
        for net, lot, moments in [(line(), [MIRROR], RIGHT), (line(), (ROUND,), (0, 2, 5, 8)), cross(), hidden()]:
            right = evened(net, lot, moments)
            for thing in things() + all_spoiled(right):
                with self.subTest(thing=thing):
                    self.assertIs(is_evened(net, lot, moments, thing), False)
            for thing in things():
                self.assertIs(is_evened(net, lot, moments, ("even", thing)), False)
                self.assertIs(is_evened(net, lot, moments, ("ring", thing, right[-1])), False)
                self.assertIs(is_evened(net, lot, moments, ("ring", right[1], thing)), False)
            self.assertIs(is_evened(net, lot, moments, right), True)
        net = Net(5, 2, ())
        self.assertIs(is_evened(net, [], (0, 1), ("even", (0, 0))), True)
        self.assertIs(is_evened(net, [], (0, 1), ("even", (False, 0))), False)
        net, lot, moments = cross()
        rows = ("ring", ((1, True), (0, False)), (False, -1, -1, 0))
        self.assertIs(is_evened(net, lot, moments, rows), False)
        rows = ("ring", ((1, True), (0, False)), (Ratio(0, 1), -1, -1, 0))
        self.assertIs(is_evened(net, lot, moments, rows), False)


def walked(net, parts, start, moves):
    """The moments in parts of a minute behind moves, one by one; None where one breaks a span."""
    beat = net.beat * parts
    moments = list(start)
    for block, up in moves:
        assert up in (1, -1) and list(block) == sorted(set(block)) and len(block) > 0
        for event in block:
            moments[event] = (moments[event] + up) % beat
        for i, j, low, high in net.spans:
            if (moments[j] - moments[i] - low * parts) % beat > (high - low) * parts:
                return None
    return tuple(moments)


class ByMovesTest(unittest.TestCase):

    def test_examples(self):
        self.assertEqual(evened_by_moves(line(), [MIRROR], RIGHT), ("even", 1, []))
        name, parts, moves = evened_by_moves(line(), [ROUND], (1, 3, 6, 9))
        self.assertEqual((name, parts), ("even", 2))
        self.assertEqual(walked(line(), 2, (2, 6, 12, 18), moves), (2, 7, 12, 17))
        net, lot, moments = hidden()
        told = evened_by_moves(net, lot, moments)
        self.assertEqual(told[0], "rings")
        self.assertTrue(is_evened_by_moves(net, lot, moments, told))
        self.assertEqual(evened(net, lot, moments)[0], "even")

    def test_against_walking(self):
        seen = {}
        for net, lot, moments in samples(83, 500, 4):
            row = slow_lengths(net, moments)
            found = evened_by_moves(net, lot, moments)
            self.assertIs(is_evened_by_moves(net, lot, moments, found), True)
            kept = is_kept(net, lot, island_of(net, moments))
            if found[0] == "even":
                self.assertTrue(kept)
                means = slow_means(net, lot, row)
                parts = found[1]
                self.assertEqual([number.denominator for number in means if parts % number.denominator], [])
                self.assertEqual(min([many for many in range(1, 49) if all([(n * many).denominator == 1 for n in means])]), parts)
                there = walked(net, parts, [moment * parts for moment in moments], found[2])
                self.assertIsInstance(found[2], list)
                self.assertIsNotNone(there)
                even = tuple([ratio(Fraction(moment, parts)) for moment in there])
                self.assertEqual([fraction(number) for number in lengths(net, even)], means)
                self.assertTrue(all([even[piece[0]] == moments[piece[0]] for piece in pieces(net)]))
                seen[parts] = True
            else:
                name, ring, likeness, first, second = found
                self.assertFalse(kept)
                self.assertIn(likeness, lot)
                self.assertEqual(first, slow_sum(row, ring) // net.beat)
                self.assertEqual(second, slow_sum(row, slow_ring_led(net, likeness, ring)) // net.beat)
                self.assertNotEqual(first, second)
                seen[name] = True
        self.assertGreaterEqual(set(seen), {1, 2, 3, "rings"})

    def test_other_moves_and_other_rings(self):
        moments = (0, 2, 5, 8)
        name, parts, moves = evened_by_moves(line(), [ROUND], moments)
        every = (0, 1, 2, 3)
        there = [(every, 1)] * 20
        for more in [there, [(every, 1), (every, -1)], [(every, -1)] * 40 + there * 2, [((0,), -1), ((0,), 1)]]:
            self.assertIs(is_evened_by_moves(line(), [ROUND], moments, (name, parts, more + moves)), True)
            self.assertIs(is_evened_by_moves(line(), [ROUND], moments, (name, parts, moves + more)), True)
        for more in [there[1:], [((0,), 1)], [((0,), -1)] * 4 + [((0,), 1)] * 4, [(every, 1)], [None], [((), 1)]]:
            self.assertIs(is_evened_by_moves(line(), [ROUND], moments, (name, parts, more + moves)), False)
            self.assertIs(is_evened_by_moves(line(), [ROUND], moments, (name, parts, moves + more)), False)
        net, lot, moments = cross()
        ring = ((1, True), (0, False))
        for told in [
            (ring, lot[1], 0, -1), (ring * 2, lot[1], 0, -2), (ring, lot[0], 0, -1),
            (((2, True), (3, False)), lot[1], -1, 0), (((0, True), (1, False)), lot[1], 0, 1),
        ]:
            right = slow_sum(slow_lengths(net, moments), slow_ring_led(net, told[1], told[0])) // net.beat == told[3]
            self.assertIs(is_evened_by_moves(net, lot, moments, ("rings",) + told), right)
        # A likeness of the group that is none of the lot will not do.
        both = slow_group(net, lot)
        self.assertEqual(len(both), 4)
        for likeness in both:
            second = slow_sum(slow_lengths(net, moments), slow_ring_led(net, likeness, ring)) // net.beat
            told = ("rings", ring, likeness, 0, second)
            self.assertIs(is_evened_by_moves(net, lot, moments, told), likeness in lot and second != 0)

    def test_spoiled(self):
        for net, lot, moments in [(line(), [MIRROR], RIGHT), (line(), (ROUND,), (0, 2, 5, 8)), cross(), hidden()]:
            right = evened_by_moves(net, lot, moments)
            for thing in things() + all_spoiled(right):
                with self.subTest(thing=thing):
                    self.assertIs(is_evened_by_moves(net, lot, moments, thing), False)
            for thing in things():
                if thing != []:
                    self.assertIs(is_evened_by_moves(net, lot, moments, ("even", 1, thing)), False)
                self.assertIs(is_evened_by_moves(net, lot, moments, ("even", thing, right[-1])), False)
                for at in range(1, 5):
                    spoiled = (right + (0, 0))[:at] + (thing,) + (right + (0, 0))[at + 1:5]
                    told = is_evened_by_moves(net, lot, moments, spoiled)
                    self.assertIs(told, False if right[0] == "even" or thing != right[at] else told)
            self.assertIs(is_evened_by_moves(net, lot, moments, right), True)
        name, parts, moves = evened_by_moves(line(), [ROUND], (0, 2, 5, 8))
        for thing in [(name, 4, moves), (name, 1, moves), (name, parts, tuple(moves)), (name, Ratio(2, 1), moves)]:
            self.assertIs(is_evened_by_moves(line(), [ROUND], (0, 2, 5, 8), thing), False)
        self.assertIs(is_evened_by_moves(line(), [ROUND], (0, 2, 5, 8), (name, 4, moves * 2)), False)
        self.assertIs(is_evened_by_moves(line(), [MIRROR], RIGHT, ("even", True, [])), False)
        net, lot, moments = cross()
        ring = ((1, True), (0, False))
        for told in [(0, True), (False, -1), (Ratio(0, 1), -1), (0, Ratio(-1, 1)), (0, 0), (-1, 0), (0, "-1")]:
            self.assertIs(is_evened_by_moves(net, lot, moments, ("rings", ring, lot[1]) + told), False)
        ones = (lot[1][0], 1)
        self.assertIs(is_evened_by_moves(net, lot, moments, ("rings", ring, ones, 0, -1)), False)
        self.assertIs(is_evened_by_moves(net, lot, moments, ("rings", ring, list(lot[1]), 0, -1)), False)

    def test_where_the_mean_lengths_are_no_timetables(self):
        # Moves lead to where the spans of the tree have the mean lengths, but other ones have not.
        net = Net(6, 3, ((2, 1, 2, 6), (2, 0, 2, 6), (0, 2, 2, 6), (1, 0, 2, 6), (1, 2, 2, 6), (0, 1, 2, 6)))
        lot = [((1, 2, 0), False)]
        for moments, moves in [((0, 0, 2), []), ((0, 0, 3), [((2,), -1)]), ((1, 1, 5), [((2,), -1)] * 2)]:
            means = mean_lengths(net, lot, moments)
            there = walked(net, 1, moments, moves)
            self.assertEqual(lengths(net, there)[:2], means[:2])
            self.assertNotEqual(lengths(net, there), means)
            self.assertIs(is_evened_by_moves(net, lot, moments, ("even", 1, moves)), False)
            self.assertEqual(evened_by_moves(net, lot, moments)[0], "rings")

    def test_broken_moments(self):
        moments = (0, HALF + 2, 5, 8)
        self.assertEqual(error_of(evened_by_moves, line(), [MIRROR], moments), ("BadTimetable",))
        self.assertIsNone(error_of(evened, line(), [MIRROR], moments))
        as_ratios = tuple([Ratio(moment, 1) for moment in (0, 2, 5, 8)])
        self.assertEqual(evened_by_moves(line(), [ROUND], as_ratios), evened_by_moves(line(), [ROUND], (0, 2, 5, 8)))

    def test_long_ways_soon(self):
        began = time.monotonic()
        net = Net(1440, 24, [(event, event + 1, 0, 1438) for event in range(23)])
        mirror = (tuple(range(24))[::-1], False)
        row = [0] * 11 + [719] + [1437] * 11
        moments = from_lengths(net, row)[1]
        told = evened_by_moves(net, [mirror], moments)
        self.assertEqual(told[:2], ("even", 2))
        self.assertGreater(len(told[2]), 10000)
        self.assertTrue(is_evened_by_moves(net, [mirror], moments, told))
        self.assertFalse(is_evened_by_moves(net, [mirror], moments, told[:2] + (told[2][:-1],)))
        self.assertLess(time.monotonic() - began, 5)


class EvenTest(unittest.TestCase):

    def test_is_even(self):
        for lot, moments, told in [
            ([MIRROR], RIGHT, True), ([ROUND], RIGHT, True), ([OTHER], (0, 2, 4, 8), False), ([MIRROR], (0, 2, 4, 8), True),
            ([ROUND], (0, 2, 4, 8), False), ([], (0, 2, 4, 8), True), ((OTHER,), (0, 3, 4, 7), True),
            ([ROUND], (0, HALF + 2, 5, HALF + 7), True), ([MIRROR, ROUND], (0, HALF + 2, 5, HALF + 7), True),
            ([ROUND], (0, HALF + 2, 5, 8), False), ([MIRROR], (0, HALF + 2, 5, 8), False),
            ([MIRROR], tuple([Ratio(moment, 1) for moment in RIGHT]), True), ([MIRROR], list(RIGHT), False),
            ([], (0, 3, 7, 9), False), ([], (False, 3, 5, 8), False),
        ]:
            self.assertIs(is_even(line(), lot, moments), told)
        for thing in things():
            self.assertIs(is_even(line(), [], thing), False)

    def test_against_lengths(self):
        told = {True: 0, False: 0}
        for net, lot, moments in samples(85, 300, 4):
            right = even_slowly(net, lot, slow_lengths(net, moments))
            self.assertIs(is_even(net, lot, moments), right)
            told[right] += 1
        self.assertGreater(min(told.values()), 50)

    def test_shifts(self):
        self.assertEqual(shifts(line(), [MIRROR], RIGHT), [(0,), (3,)])
        self.assertEqual(shifts(line(), (ROUND,), (0, HALF + 2, 5, HALF + 7)), [(0,), (5,)])
        self.assertEqual(shifts(line(), [OTHER], (HALF, HALF + 3, HALF + 5, HALF + 8)), [(0,), (9,)])
        self.assertEqual(shifts(line(), [OTHER], (Ratio(1, 3), Ratio(10, 3), Ratio(16, 3), Ratio(25, 3))), [(0,), (Ratio(26, 3),)])
        net = Net(10, 5, ((0, 1, 2, 4), (3, 2, 2, 4)))
        lot = [((3, 2, 1, 0, 4), True)]
        self.assertEqual(shifts(net, lot, (1, 4, 9, 6, 7)), [(0, 0, 0), (5, 5, 0)])
        self.assertEqual(shifts(net, lot, (1, 4, 0, 7, 7)), [(0, 0, 0), (4, 6, 0)])
        self.assertEqual(shifts(Net(5, 1, ()), [((0,), False)], (Ratio(1, 2),)), [(1,), (0,)])

    def test_shifts_against_images(self):
        for net, lot, moments in samples(86, 300, 4):
            name, even = evened(net, lot, moments)[:2]
            if name == "ring":
                continue
            told = shifts(net, lot, even)
            self.assertEqual(len(told), len(group(net, lot)))
            for likeness, row in zip(group(net, lot), told):
                self.assertIsInstance(row, tuple)
                there = image(net, likeness, even)
                for piece, number in zip(pieces(net), row):
                    self.assertTrue(is_plain(number) and 0 <= fraction(number) < net.beat)
                    later = shifted(net, there, number)
                    self.assertEqual([later[event] for event in piece], [even[event] for event in piece])

    def test_shifts_of_uneven_ones(self):
        self.assertEqual(error_of(shifts, line(), [ROUND], (0, 2, 5, 8)), ("NotEven",))
        for net, lot, moments in samples(87, 100, 3):
            told = None if is_even(net, lot, moments) else ("NotEven",)
            self.assertEqual(error_of(shifts, net, lot, moments), told)


def slow_least_parts(net, lot, island, most):
    """The least parts, going over all timetables in such parts of a minute."""
    for parts in range(1, most + 1):
        finer = Net(net.beat * parts, net.events, [(i, j, low * parts, high * parts) for i, j, low, high in net.spans])
        later = [range(1) if event in [piece[0] for piece in pieces(net)] else range(finer.beat) for event in range(net.events)]
        for moments in itertools.product(*later):
            row = slow_lengths(finer, moments)
            if row is not None and even_slowly(net, lot, row):
                if tuple([slow_sum(row, ring) // finer.beat for ring in base(net)]) == island:
                    return parts
    return None


class LeastPartsTest(unittest.TestCase):

    def check(self, net, lot, island, most, told):
        found = least_parts(net, lot, island, most)
        if told is None:
            self.assertIsNone(found)
            return
        name, parts, timetable = found
        self.assertEqual((name, parts), ("parts", told))
        self.assertTrue(is_even(net, lot, timetable))
        self.assertEqual(island_of(net, timetable), island)
        self.assertTrue(all([timetable[piece[0]] == 0 for piece in pieces(net)]))
        self.assertTrue(all([is_plain(moment) for moment in timetable]))
        self.assertEqual([number for number in lengths(net, timetable) if parts % fraction(number).denominator], [])

    def test_each_number_of_parts(self):
        for many in range(3, 8):
            # The lengths are the beat divided by so many.
            net, turn = wheel(many)
            fitting = Net(many * 2 + 1, many, net.spans)
            for most in range(1, 7):
                self.check(fitting, [turn], (1,), most, many if many <= most else None)
                self.check(fitting, [turn, turn], (1,), most, many if many <= most else None)
                self.check(fitting, [], (1,), most, 1)
        net = Net(9, 2, ((0, 1, 4, 5), (1, 0, 4, 5)))
        self.check(net, TURN, (1,), 1, None)
        self.check(net, TURN, (1,), 2, 2)
        self.check(net, TURN, (1,), 6, 2)
        self.check(line(), [ROUND], (1,), 1, 1)
        self.check(Net(5, 1, ()), [], (), 1, 1)

    def test_islands_that_are_not_kept(self):
        self.check(three(), TURN, (1, 0, 2), 6, None)
        self.check(three(), TURN, (1, 0, 1), 6, 1)
        self.check(three(), [((1, 0), False)], (1, 0, 2), 6, 1)

    def test_against_all_finer_timetables(self):
        chance = random.Random(88)
        seen = set()
        for _ in range(250):
            net, lot = alike_net(chance)
            if (net.beat * 3) ** (net.events - len(pieces(net))) > 3000:
                continue
            for island in islands(net)[:3]:
                told = slow_least_parts(net, lot, island, 3)
                seen.add(told)
                self.check(net, lot, island, 3, told)
        self.assertEqual(seen, {1, 2, 3, None})

    def test_the_size_of_the_group_is_enough(self):
        chance = random.Random(89)
        for _ in range(200):
            net, lot = alike_net(chance)
            size = len(group(net, lot))
            for island in islands(net):
                told = least_parts(net, lot, island, 6)
                if told is not None:
                    self.assertTrue(is_kept(net, lot, island))
                elif is_kept(net, lot, island):
                    self.assertGreater(size, 6)

    def test_several_sums_as_one(self):
        chance = random.Random(93)
        for _ in range(300):
            many = chance.randint(1, 3)
            lines = [[chance.randint(-9, 9) for _ in range(many)] for _ in range(chance.randint(0, 3))]
            mosts = [chance.randint(0, 12) for _ in range(many)]
            needs = [chance.randint(-20, 20) for _ in lines]
            weights, aim = as_one(lines, needs, mosts)
            right = []
            for times in itertools.product(*[range(most + 1) for most in mosts]):
                sums = [sum([a * b for a, b in zip(line, times)]) for line in lines]
                self.assertIs(sum([a * b for a, b in zip(weights, times)]) == aim, sums == needs)
                if sums == needs:
                    right.append(times)
            found = times_for(weights, mosts, aim)
            self.assertTrue(found in right if right else found is None)
        # Sums that miss their needs by 1 below and 47 above.
        weights, aim = as_one([[1], [9]], [6, -2], [12])
        self.assertIsNone(times_for(weights, [12], aim))
        weights, aim = as_one([[1], [9]], [5, 45], [12])
        self.assertEqual(times_for(weights, [12], aim), (5,))

    def test_soon_at_the_limits(self):
        began = time.monotonic()
        spans = []
        for start, aim in [(0, 0), (7, 7), (14, 14), (0, 7), (7, 14), (14, 0)]:
            for at in range(7):
                more = 1 if start == aim else 0
                spans.append((start + at, aim + (at + more) % 7, 0, 8))
        net = Net(20, 21, spans)
        lot = [(tuple([at // 7 * 7 + (at + 1) % 7 for at in range(21)]), True)]
        third = Ratio(20, 7)
        row = [third] * 21 + [6] * 7 + [7] * 14
        timetable = from_lengths(net, row)[1]
        self.assertEqual(len(like_spans(net, lot)), 6)
        self.assertTrue(is_even(net, lot, timetable))
        self.check(net, lot, island_of(net, timetable), 6, None)
        net = Net(10, 3, [(at % 3, (at + 1) % 3, at, at + 8) for at in range(6)])
        for island in islands(net):
            self.check(net, [], island, 6, 1)
        self.assertLess(time.monotonic() - began, 5)

    def test_errors(self):
        for thing in [thing for thing, told in not_likenesses()] + things():
            self.assertEqual(error_of(least_parts, line(), [MIRROR, thing], None, None), ("BadLot", 1))
        for thing in things():
            if not isinstance(thing, (list, tuple)):
                self.assertEqual(error_of(least_parts, line(), thing, (1,), 1), ("BadLot", -1))
            if thing != (0,):
                self.assertEqual(error_of(least_parts, line(), [MIRROR], thing, 0), ("BadIsland", -1))
            error = error_of(least_parts, line(), [MIRROR], (1,), thing)
            self.assertEqual(error[0], "BadMost")
            self.assertIs(error[1], thing)
        self.assertEqual(error_of(least_parts, Net(5, 24, ()), [(turned((5, 7)), False)], 0, 0), ("TooMany", 48))
        for row in [(0,), (2,), (-1,), (10 ** 40,)]:
            self.assertEqual(error_of(least_parts, line(), [MIRROR], row, None), ("BadIsland", -2))
        for most in (0, 7, -1, True, Ratio(1, 1), "1"):
            self.assertEqual(error_of(least_parts, line(), [MIRROR], (1,), most), ("BadMost", most))


class EvenIslandsTest(unittest.TestCase):

    def test_examples(self):
        self.assertEqual(even_islands(three(), TURN), [(1, 0, 1)])
        self.assertEqual(even_islands(three(), []), islands(three()))
        self.assertEqual(even_islands(three(), (((1, 0), False),)), islands(three()))
        self.assertEqual(even_islands(line(), [MIRROR, ROUND]), [(1,)])
        net, lot, moments = cross()
        self.assertNotIn(island_of(net, moments), even_islands(net, lot))

    def test_against_islands_and_all_timetables(self):
        chance = random.Random(90)
        fewer = 0
        for _ in range(150):
            net, lot = alike_net(chance)
            found = even_islands(net, lot)
            self.assertEqual(found, [island for island in islands(net) if is_kept(net, lot, island)])
            fewer += found != islands(net)
            there = set()
            for moments in slow_timetables(net):
                even = evened(net, lot, moments)
                if even[0] == "even" and all([moments[piece[0]] == 0 for piece in pieces(net)]):
                    self.assertTrue(is_even(net, lot, even[1]))
                    there.add(island_of(net, even[1]))
                    kept = is_kept(net, lot, island_of(net, moments))
                    self.assertIs(kept, island_of(net, moments) == island_of(net, even[1]))
            self.assertEqual(sorted(there), found)
        self.assertGreater(fewer, 3)

    def test_errors(self):
        for thing in [thing for thing, told in not_likenesses()] + things():
            self.assertEqual(error_of(even_islands, line(), [MIRROR, thing]), ("BadLot", 1))
        for thing in things():
            if not isinstance(thing, (list, tuple)):
                self.assertEqual(error_of(even_islands, line(), thing), ("BadLot", -1))
        self.assertEqual(error_of(even_islands, line(), [SAME] * 7), ("BadLot", -1))
        self.assertEqual(error_of(even_islands, Net(5, 24, ()), [(turned((5, 7)), False)]), ("TooMany", 48))


class UnchangedTest(unittest.TestCase):

    def test_nothing_is_changed_and_lists_are_new(self):
        net, lot, moments = line(), [ROUND], (0, 2, 5, 8)
        kept = copy.deepcopy(lot)
        told = evened_by_moves(net, lot, moments)
        spare = copy.deepcopy(told)
        self.assertIs(is_evened_by_moves(net, lot, moments, told), True)
        self.assertEqual(told, spare)
        told[2].clear()
        self.assertEqual(evened_by_moves(net, lot, moments), spare)
        for call, passed in [(even_islands, (net, lot)), (shifts, (net, lot, (0, HALF + 2, 5, HALF + 7)))]:
            first = call(*passed)
            again = call(*passed)
            self.assertEqual(first, again)
            self.assertIsNot(first, again)
        self.assertEqual(lot, kept)

    def test_of_several_pieces(self):
        net = Net(10, 5, ((1, 2, 2, 4), (4, 0, 2, 4)))
        lot = [((2, 4, 0, 3, 1), True)]
        self.assertEqual(evened(net, lot, (4, 5, 7, 6, 1)), ("even", (0, 0, Ratio(5, 2), 0, Ratio(15, 2))))
        name, parts, moves = evened_by_moves(net, lot, (4, 5, 7, 6, 1))
        self.assertEqual((name, parts), ("even", 2))
        self.assertEqual(walked(net, 2, (8, 10, 14, 12, 2), moves), (8, 10, 15, 12, 3))
        self.assertIs(is_evened_by_moves(net, lot, (4, 5, 7, 6, 1), (name, parts, [((2,), 1), ((4,), 1)])), True)
        self.assertIs(is_evened_by_moves(net, lot, (4, 5, 7, 6, 1), (name, parts, [((1,), -1), ((4,), 1)])), False)


if __name__ == "__main__":
    unittest.main()
