"""Likenesses, lots and their groups: points 6.1 to 6.3."""

import copy
import itertools
import random
import time
import unittest

from likespans.likes import (
    back, behind, group, is_likeness, like_events, like_spans, likeness_fault, likenesses, order, ring_led, spans_led,
)
from likespans.nets import Net
from likespans.ratios import Ratio
from likespans.ways import backward, base, way_ends
from tests.slow import (
    alike_net, slow_group, slow_is_likeness, slow_like_spans, slow_likenesses, slow_ring_led, slow_span_led, some_net,
)
from tests.things import error_of, line, things

SAME = ((0, 1, 2, 3), True)
MIRROR = ((1, 0, 3, 2), False)
ROUND = ((2, 3, 0, 1), True)
OTHER = ((3, 2, 1, 0), False)
RING = ((3, True), (0, True), (1, True), (2, True))


def wheel(many, forth=True):
    """A ring of so many like spans, and the likeness that leads each to the next one."""
    spans = [(event, (event + 1) % many, 1, 3) for event in range(many)]
    moved = [(event + 1) % many for event in range(many)]
    return Net(10, many, spans), (tuple(moved), True)


def turned(lists):
    """For 24 events in lists of so many, and lone ones behind them, the event behind each in its list."""
    moved = []
    for many in lists + (1,) * (24 - sum(lists)):
        start = len(moved)
        moved = moved + [start + (at + 1) % many for at in range(many)]
    return tuple(moved)


def not_likenesses():
    """Things that are no likenesses of the net of the examples, with what likeness_fault tells of them."""
    moved = (0, 1, 2, 3)
    kinds = [
        None, True, 0, (), (moved,), (moved, True, True), [moved, True], (list(moved), True), (moved, 1), (moved, 0),
        (moved, None), (moved, "forth"), (moved, [True]), ((0, 1, 2), True), ((0, 1, 2, 3, 4), True), ((), False),
        (True, moved), ({0: 0}, True), ("0123", True), (range(4), True), (line(), True), (moved, Ratio(1, 1)),
    ]
    faults = [(thing, ("likeness", -1)) for thing in kinds]
    for index, event in [(0, True), (0, -1), (1, 4), (2, "2"), (3, None), (1, [1]), (2, Ratio(2, 1)), (3, 10 ** 40)]:
        faults.append(((moved[:index] + (event,) + moved[index + 1:], True), ("event", index)))
    for thing, index in [((0, 0, 2, 3), 1), ((0, 1, 2, 0), 3), ((3, 2, 2, "x"), 2), ((0, 5, 0, 0), 1)]:
        faults.append(((thing, False), ("event", index)))
    for thing, index in [
        (((1, 2, 3, 0), True), 0), (((0, 1, 3, 2), True), 1), (((0, 1, 2, 3), False), 0), (((1, 0, 2, 3), False), 1),
        (((0, 2, 1, 3), True), 0), (((2, 3, 0, 1), False), 0),
    ]:
        faults.append((thing, ("span", index)))
    return faults


class FaultTest(unittest.TestCase):

    def test_the_likenesses_of_the_examples(self):
        for likeness in (SAME, MIRROR, ROUND, OTHER):
            self.assertIsNone(likeness_fault(line(), likeness))
            self.assertIs(is_likeness(line(), likeness), True)

    def test_each_fault_and_which_comes_first(self):
        for thing, told in not_likenesses():
            with self.subTest(thing=thing):
                self.assertEqual(likeness_fault(line(), thing), told)
                self.assertIs(is_likeness(line(), thing), False)

    def test_things(self):
        for thing in things():
            self.assertEqual(likeness_fault(line(), thing), ("likeness", -1))
            self.assertEqual(likeness_fault(line(), (thing, True))[1] >= -1, True)
            self.assertEqual(likeness_fault(line(), ((0, 1, thing, 3), True))[0], "event")
            flag = isinstance(thing, bool)
            self.assertEqual(likeness_fault(line(), ((0, 1, 2, 3), thing)) == ("likeness", -1), not flag)

    def test_the_bounds_count_too(self):
        net = Net(10, 4, ((0, 1, 2, 4), (2, 3, 2, 5)))
        self.assertEqual(likeness_fault(net, ROUND), ("span", 0))
        self.assertEqual(likeness_fault(net, ((0, 1, 2, 3), True)), None)
        self.assertEqual(likeness_fault(net, ((1, 0, 2, 3), False)), ("span", 1))
        self.assertEqual(likeness_fault(net, ((1, 0, 3, 2), False)), None)
        # Several spans between the same events: each is led to the one of its bounds.
        net = Net(10, 2, ((0, 1, 2, 4), (1, 0, 2, 3), (0, 1, 2, 3), (1, 0, 2, 4)))
        self.assertEqual(spans_led(net, ((1, 0), True)), (3, 2, 1, 0))
        self.assertEqual(spans_led(net, ((0, 1), False)), (3, 2, 1, 0))
        self.assertEqual(spans_led(net, ((1, 0), False)), (0, 1, 2, 3))

    def test_against_trying_all_spans(self):
        chance = random.Random(61)
        for _ in range(300):
            net = some_net(chance)
            moved = tuple(chance.sample(range(net.events), net.events))
            forth = chance.random() < 0.5
            self.assertIs(is_likeness(net, (moved, forth)), slow_is_likeness(net, moved, forth))


class LedTest(unittest.TestCase):

    def test_spans_led(self):
        for likeness, told in [(SAME, (0, 1, 2, 3)), (MIRROR, (0, 3, 2, 1)), (ROUND, (2, 3, 0, 1)), (OTHER, (2, 1, 0, 3))]:
            self.assertEqual(spans_led(line(), likeness), told)
        self.assertEqual(spans_led(Net(5, 2, ()), ((1, 0), False)), ())

    def test_ring_led(self):
        self.assertEqual(ring_led(line(), SAME, RING), RING)
        self.assertEqual(ring_led(line(), ROUND, RING), ((1, True), (2, True), (3, True), (0, True)))
        self.assertEqual(ring_led(line(), MIRROR, RING), ((2, True), (3, True), (0, True), (1, True)))
        self.assertEqual(ring_led(line(), OTHER, backward(line(), RING)), ((3, False), (2, False), (1, False), (0, False)))
        self.assertEqual(ring_led(line(), MIRROR, ((1, True), (1, False))), ((3, False), (3, True)))
        self.assertEqual(ring_led(line(), ROUND, ((1, True), (1, False))), ((3, True), (3, False)))

    def test_rings_led_are_rings(self):
        chance = random.Random(62)
        for _ in range(200):
            net, lot = alike_net(chance)
            for likeness in lot:
                self.assertEqual(
                    spans_led(net, likeness),
                    tuple([slow_span_led(net, likeness, index) for index in range(len(net.spans))]),
                )
                for ring in base(net):
                    there = ring_led(net, likeness, ring)
                    self.assertEqual(there, slow_ring_led(net, likeness, ring))
                    one, other = way_ends(net, there)
                    self.assertEqual(one, other)
                    self.assertEqual(one, likeness[0][way_ends(net, ring)[0]])

    def test_errors(self):
        for thing in [thing for thing, told in not_likenesses()] + things():
            self.assertEqual(error_of(spans_led, line(), thing), ("BadLikeness",))
            self.assertEqual(error_of(ring_led, line(), thing, RING), ("BadLikeness",))
            self.assertEqual(error_of(ring_led, line(), thing, None), ("BadLikeness",))
        for thing in things() + [(), RING[:3], list(RING), ((0, True), (3, True)), ((4, True),)]:
            self.assertEqual(error_of(ring_led, line(), MIRROR, thing), ("BadRing",))


class LikenessesTest(unittest.TestCase):

    def test_the_example(self):
        self.assertEqual(likenesses(line()), [SAME, MIRROR, ROUND, OTHER])

    def test_against_all_orders(self):
        chance = random.Random(63)
        for _ in range(250):
            net = some_net(chance) if chance.random() < 0.5 else alike_net(chance)[0]
            self.assertEqual(likenesses(net), slow_likenesses(net))
        for many in range(3, 7):
            net = wheel(many)[0]
            self.assertEqual(likenesses(net), slow_likenesses(net))
            self.assertEqual(len(likenesses(net)), 2 * many)

    def test_false_ahead_of_true(self):
        self.assertEqual(likenesses(Net(5, 1, ())), [((0,), False), ((0,), True)])
        net = Net(5, 2, ((0, 1, 1, 2), (1, 0, 1, 2)))
        self.assertEqual(likenesses(net), [((0, 1), False), ((0, 1), True), ((1, 0), False), ((1, 0), True)])

    def test_as_many_as_may_be_and_more(self):
        self.assertEqual(len(likenesses(Net(5, 4, ()))), 48)
        cube = [(one, other, 1, 2) for one in range(8) for other in range(8) if bin(one ^ other).count("1") == 1]
        self.assertEqual(error_of(likenesses, Net(10, 8, cube)), ("TooMany", 48))
        up = [span for span in cube if span[0] < span[1]]
        self.assertEqual(len(likenesses(Net(10, 8, up))), 12)
        for events in range(5, 9):
            self.assertEqual(error_of(likenesses, Net(5, events, ())), ("TooMany", 48))
        pairs = Net(5, 8, [(event, event + 4, 0, 1) for event in range(4)])
        self.assertEqual(len(likenesses(pairs)), 48)
        self.assertEqual(error_of(likenesses, Net(5, 8, pairs.spans[:3])), None)
        self.assertEqual(len(likenesses(Net(5, 8, pairs.spans[:3]))), 24)
        self.assertEqual(error_of(likenesses, Net(5, 8, pairs.spans[:2])), ("TooMany", 48))

    def test_forty_eight_of_one_kind_alone(self):
        # Three pairs that may each be exchanged, in any order, but not mirrored.
        spans = []
        for one in range(3):
            for other in (3 + 2 * one, 4 + 2 * one):
                spans.append((one, other, 1, 2))
        net = Net(10, 9, spans)
        self.assertEqual(len(likenesses(net)), 48)
        self.assertEqual([forth for moved, forth in likenesses(net)], [True] * 48)
        self.assertEqual(error_of(likenesses, Net(10, 10, spans)), None)
        self.assertEqual(error_of(likenesses, Net(10, 11, spans)), ("TooMany", 48))

    def test_soon_at_the_limits(self):
        began = time.monotonic()
        all_pairs = [(i, j, 1, 2) for i in range(8) for j in range(8) if i != j]
        self.assertEqual(error_of(likenesses, Net(10, 8, all_pairs)), ("TooMany", 48))
        self.assertEqual(error_of(likenesses, Net(10, 8, all_pairs[:-1])), ("TooMany", 48))
        self.assertEqual(len(likenesses(Net(10, 8, [span for span in all_pairs if span[0] < span[1]]))), 2)
        three = [(5, 6, 1, 2), (6, 7, 1, 2), (7, 5, 1, 3)]
        self.assertEqual(error_of(likenesses, Net(10, 8, three)), ("TooMany", 48))
        self.assertLess(time.monotonic() - began, 3)


class DoneTest(unittest.TestCase):

    def test_behind(self):
        self.assertEqual(behind(line(), MIRROR, ROUND), OTHER)
        self.assertEqual(behind(line(), MIRROR, MIRROR), SAME)
        self.assertEqual(behind(line(), MIRROR, OTHER), ROUND)
        self.assertEqual(behind(line(), ROUND, ROUND), SAME)
        net, turn = wheel(5)
        mirror = ((0, 4, 3, 2, 1), False)
        # First one, then other: not the same the other way round.
        self.assertEqual(behind(net, turn, mirror), ((4, 3, 2, 1, 0), False))
        self.assertEqual(behind(net, mirror, turn), ((1, 0, 4, 3, 2), False))

    def test_back(self):
        net, turn = wheel(5)
        self.assertEqual(back(net, turn), ((4, 0, 1, 2, 3), True))
        self.assertEqual(back(net, ((1, 0, 4, 3, 2), False)), ((1, 0, 4, 3, 2), False))
        free = Net(5, 3, ())
        self.assertEqual(back(free, ((1, 2, 0), False)), ((2, 0, 1), False))
        self.assertEqual(behind(free, ((1, 2, 0), False), ((2, 0, 1), False)), ((0, 1, 2), True))

    def test_order(self):
        for likeness, told in [(SAME, 1), (MIRROR, 2), (ROUND, 2), (OTHER, 2)]:
            self.assertEqual(order(line(), likeness), told)
        for lists, forth, told in [
            ((1,), True, 1), ((1,), False, 2), ((3,), True, 3), ((3,), False, 6), ((2, 3), True, 6), ((2, 3), False, 6),
            ((4, 6), True, 12), ((3, 5), False, 30), ((3, 4, 5, 7), True, 420), ((3, 4, 5, 7), False, 420),
            ((3, 5, 7, 8), True, 840), ((3, 5, 7), False, 210),
        ]:
            self.assertEqual(order(Net(5, 24, ()), (turned(lists), forth)), told)

    def test_against_doing(self):
        chance = random.Random(64)
        for _ in range(150):
            net, lot = alike_net(chance)
            same = (tuple(range(net.events)), True)
            for one, other in itertools.product(lot, repeat=2):
                both = behind(net, one, other)
                self.assertTrue(slow_is_likeness(net, both[0], both[1]))
                self.assertEqual(behind(net, one, back(net, one)), same)
                self.assertEqual(behind(net, back(net, one), one), same)
                self.assertEqual(back(net, both), behind(net, back(net, other), back(net, one)))
            done = lot[0]
            many = 1
            while done != same:
                done = behind(net, done, lot[0])
                many += 1
            self.assertEqual(order(net, lot[0]), many)
            self.assertTrue(lot[0][1] or many % 2 == 0)

    def test_errors(self):
        for thing in [thing for thing, told in not_likenesses()] + things():
            self.assertEqual(error_of(behind, line(), thing, MIRROR), ("BadLikeness",))
            self.assertEqual(error_of(behind, line(), MIRROR, thing), ("BadLikeness",))
            self.assertEqual(error_of(back, line(), thing), ("BadLikeness",))
            self.assertEqual(error_of(order, line(), thing), ("BadLikeness",))


class GroupTest(unittest.TestCase):

    def test_of_few(self):
        for lot, told in [
            ([], [SAME]), ((), [SAME]), ([SAME], [SAME]), ([MIRROR], [SAME, MIRROR]), ((ROUND,), [SAME, ROUND]),
            ([MIRROR, MIRROR], [SAME, MIRROR]), ([OTHER, MIRROR], [SAME, MIRROR, ROUND, OTHER]),
            ((ROUND, OTHER, ROUND, OTHER, SAME, ROUND), [SAME, MIRROR, ROUND, OTHER]),
        ]:
            self.assertEqual(group(line(), lot), told)

    def test_against_putting_together(self):
        chance = random.Random(65)
        for _ in range(200):
            net, lot = alike_net(chance)
            self.assertEqual(group(net, lot), slow_group(net, lot))
            self.assertEqual(group(net, tuple(lot)), slow_group(net, lot))
            self.assertEqual(like_spans(net, lot), slow_like_spans(net, lot))
            events = []
            for event in range(net.events):
                alike = sorted({moved[event] for moved, forth in slow_group(net, lot)})
                if alike not in events:
                    events.append(alike)
            self.assertEqual(like_events(net, lot), events)

    def test_like_events_and_spans(self):
        for lot, events, spans in [
            ([], [[0], [1], [2], [3]], [[0], [1], [2], [3]]), ([ROUND], [[0, 2], [1, 3]], [[0, 2], [1, 3]]),
            ([MIRROR], [[0, 1], [2, 3]], [[0], [1, 3], [2]]), ([OTHER], [[0, 3], [1, 2]], [[0, 2], [1], [3]]),
            ((OTHER, ROUND), [[0, 1, 2, 3]], [[0, 2], [1, 3]]),
        ]:
            self.assertEqual(like_events(line(), lot), events)
            self.assertEqual(like_spans(line(), lot), spans)

    def test_as_great_as_may_be_and_more(self):
        net, turn = wheel(24)
        mirror = (tuple([-event % 24 for event in range(24)]), False)
        self.assertEqual(len(group(net, [turn, mirror])), 48)
        self.assertEqual(like_spans(net, [turn, mirror]), [list(range(24))])
        for lists, forth, told in [((3, 7), True, 21), ((3, 7), False, 42), ((5, 7), True, 35), ((3, 16), False, 48)]:
            self.assertEqual(len(group(Net(5, 24, ()), [(turned(lists), forth)])), told)
        self.assertEqual(error_of(group, Net(5, 24, ()), [(turned((5, 7)), False)]), ("TooMany", 48))
        # Two rings of seven that turn each by itself: 49.
        two = [(turned((7, 1)), True), (turned((1,) * 7 + (7,)), True)]
        self.assertEqual(error_of(group, Net(5, 24, ()), two), ("TooMany", 48))
        self.assertEqual(len(group(Net(5, 24, ()), two[:1] + [(turned((1,) * 7 + (6,)), True)])), 42)

    def test_errors(self):
        for call in (group, like_events, like_spans):
            for thing in things() + [SAME[0], {0: MIRROR}]:
                row = isinstance(thing, (list, tuple)) and len(thing) <= 6
                if row and len(thing) == 0:
                    self.assertIsNone(error_of(call, line(), thing))
                else:
                    self.assertEqual(error_of(call, line(), thing), ("BadLot", 0 if row else -1))
            for thing in [thing for thing, told in not_likenesses()] + things():
                for index in range(6):
                    lot = [MIRROR, ROUND, SAME, OTHER, MIRROR][:index] + [thing] + [None] * (5 - index)
                    self.assertEqual(error_of(call, line(), lot), ("BadLot", index))
                    self.assertEqual(error_of(call, line(), tuple(lot)), ("BadLot", index))
                self.assertEqual(error_of(call, line(), [MIRROR] * 6 + [thing]), ("BadLot", -1))
            self.assertIsNone(error_of(call, line(), [MIRROR] * 6))
            self.assertEqual(error_of(call, line(), [MIRROR] * 7), ("BadLot", -1))
            self.assertEqual(error_of(call, line(), (None,) * 7), ("BadLot", -1))

    def test_too_many(self):
        began = time.monotonic()
        chance = random.Random(66)
        free = Net(5, 24, ())
        lot = [(tuple(chance.sample(range(24), 24)), chance.random() < 0.5) for _ in range(6)]
        for call in (group, like_events, like_spans):
            self.assertEqual(error_of(call, free, lot), ("TooMany", 48))
            self.assertEqual(error_of(call, free, lot[:5] + [(lot[5][0], 1)]), ("BadLot", 5))
            self.assertEqual(error_of(call, free, lot + lot[:1]), ("BadLot", -1))
            five = ((1, 2, 3, 4, 0) + tuple(range(5, 24)), True)
            self.assertEqual(error_of(call, free, [five, ((1, 0) + tuple(range(2, 24)), True)]), ("TooMany", 48))
        self.assertLess(time.monotonic() - began, 3)

    def test_nothing_is_changed_and_lists_are_new(self):
        net, turn = wheel(4)
        lot = [turn, ((0, 3, 2, 1), False)]
        kept = copy.deepcopy(lot)
        for call in (group, like_events, like_spans):
            told = call(net, lot)
            again = call(net, lot)
            self.assertEqual(told, again)
            self.assertIsNot(told, again)
            told.clear()
            self.assertEqual(call(net, lot), again)
        self.assertEqual(lot, kept)


if __name__ == "__main__":
    unittest.main()
