"""Journeys: points 10.1 and 10.2."""

import random
import time
import unittest
from fractions import Fraction

from likespans.evening import evened, is_even
from likespans.journeys import quickest, quickest_unlike, takes, there_and_back
from likespans.likes import likenesses
from likespans.nets import Net
from likespans.ratios import Ratio
from likespans.timetables import lengths
from likespans.ways import way_ends
from tests.slow import alike_net, slow_lengths, slow_ring_led, slow_timetables, some_net
from tests.test_likes import MIRROR, OTHER, ROUND, SAME, not_likenesses, wheel
from tests.things import error_of, fraction, is_plain, line, things

HALF = Ratio(1, 2)
RIGHT = (0, 3, 5, 8)
FORTH = ((0, True), (1, True), (2, True), (3, True))


def journeys(net, most):
    """All journeys of at most so many spans, each not empty."""
    found = []
    fresh = [((index, True),) for index in range(len(net.spans))]
    for _ in range(most):
        found = found + fresh
        further = []
        for way in fresh:
            for index, span in enumerate(net.spans):
                if span[0] == net.spans[way[-1][0]][1]:
                    further.append(way + ((index, True),))
        fresh = further
    return found


def slow_quickest(net, row):
    """The least that journeys from each event to each one take, by going on as long as any is made shorter."""
    times = {(event, event): 0 for event in range(net.events)}
    changed = True
    while changed:
        changed = False
        for (i, j, low, high), number in zip(net.spans, row):
            for event in range(net.events):
                if (event, i) in times:
                    there = times[event, i] + fraction(number)
                    if (event, j) not in times or there < times[event, j]:
                        times[event, j] = there
                        changed = True
    return times


def samples(seed, many, each, make):
    """Nets made by chance with some of their whole timetables."""
    chance = random.Random(seed)
    found = []
    for _ in range(many):
        net = make(chance)
        rows = slow_timetables(net)
        for moments in chance.sample(rows, min(len(rows), each)):
            found.append((net, moments))
    return found


def mirrored(seed, many):
    """Nets made by chance with a likeness that is not forth, and timetables, even ones too."""
    found = []
    for net, moments in samples(seed, many, 3, lambda chance: alike_net(chance)[0]):
        for likeness in likenesses(net):
            if not likeness[1]:
                found.append((net, likeness, moments))
                told = evened(net, [likeness], moments)
                if told[0] == "even":
                    found.append((net, likeness, told[1]))
    return found


class TakesTest(unittest.TestCase):

    def test_journeys(self):
        for moments, way, told in [
            (RIGHT, (), 0), (RIGHT, FORTH[:1], 3), (RIGHT, FORTH[1:3], 5), (RIGHT, FORTH, 10), (RIGHT, FORTH * 50, 500),
            ((0, HALF + 2, 5, 8), FORTH[:1], Ratio(5, 2)), ((0, HALF + 2, 5, 8), FORTH[:2], 5),
            ((0, HALF + 2, 5, 8), FORTH * 50 + FORTH[:1], Ratio(1005, 2)), ((0, HALF + 2, 5, 8), (), 0),
            ((Ratio(0, 1), Ratio(3, 1), 5, 8), FORTH[:1], 3),
        ]:
            found = takes(line(), moments, way)
            self.assertEqual(found, told)
            self.assertTrue(is_plain(found))
        self.assertEqual(takes(Net(5, 1, ()), (0,), ()), 0)

    def test_by_lengths(self):
        for net, moments in samples(101, 60, 2, some_net):
            row = slow_lengths(net, moments)
            for way in journeys(net, 3)[:100]:
                self.assertEqual(takes(net, moments, way), sum([row[index] for index, forth in way]))

    def test_errors(self):
        for thing in things() + [(0, 3, 7, 9), list(RIGHT)]:
            self.assertEqual(error_of(takes, line(), thing, FORTH), ("BadTimetable",))
            self.assertEqual(error_of(takes, line(), thing, None), ("BadTimetable",))
        ways = [
            ((0, False),), FORTH[:2] + ((1, False),), ((0, True), (2, True)), ((1, True), (0, True)), list(FORTH), ((4, True),),
            ((-1, True),), ((0, 1),), ((0,),), ([0, True],), ((0, True), None), ((0, False), (0, True)), ((True, True),),
            ((0, True), (0, False)), ((3, False), (2, False)),
        ]
        for thing in ways + things():
            if thing not in [(), ((0, True),)]:
                self.assertEqual(error_of(takes, line(), RIGHT, thing), ("BadWay",))


class QuickestTest(unittest.TestCase):

    def check(self, net, moments):
        times = slow_quickest(net, lengths(net, moments))
        for one in range(net.events):
            for other in range(net.events):
                told = quickest(net, moments, one, other)
                if (one, other) not in times:
                    self.assertIsNone(told)
                    continue
                number, way = told
                self.assertTrue(is_plain(number))
                self.assertEqual(fraction(number), times[one, other])
                self.assertEqual(takes(net, moments, way), number)
                if one == other:
                    self.assertEqual(told, (0, ()))
                else:
                    self.assertEqual(way_ends(net, way), (one, other))

    def test_examples(self):
        self.assertEqual(quickest(line(), RIGHT, 0, 3), (8, FORTH[:3]))
        self.assertEqual(quickest(line(), RIGHT, 1, 0), (7, FORTH[1:]))
        self.assertEqual(quickest(line(), RIGHT, 2, 2), (0, ()))
        self.assertEqual(quickest(line(), (0, HALF + 2, 5, 8), 3, 1), (Ratio(9, 2), (FORTH[3], FORTH[0])))
        net = Net(10, 3, ((0, 1, 2, 4), (0, 1, 8, 12), (2, 1, 1, 3)))
        self.assertIsNone(quickest(net, (0, 2, 0), 1, 0))
        self.assertIsNone(quickest(net, (0, 2, 0), 0, 2))
        self.assertEqual(quickest(net, (0, 2, 0), 0, 1), (2, ((0, True),)))

    def test_round_about_may_be_quicker(self):
        net = Net(10, 3, ((0, 2, 9, 9), (0, 1, 2, 2), (1, 2, 6, 7)))
        self.assertIsNone(error_of(quickest, Net(10, 3, net.spans[1:]), (0, 2, 9), 0, 2))
        self.assertEqual(quickest(net, (0, 2, 9), 0, 2)[0], 9)
        net = Net(10, 3, ((0, 2, 18, 18), (0, 1, 2, 2), (1, 2, 6, 7)))
        self.assertEqual(quickest(net, (0, 2, 8), 0, 2), (8, ((1, True), (2, True))))
        net = Net(5, 3, ((0, 1, 0, 0), (1, 0, 0, 0), (1, 2, 0, 3), (2, 0, 5, 5)))
        self.assertEqual(quickest(net, (1, 1, 1), 0, 2), (0, ((0, True), (2, True))))

    def test_against_going_through_journeys(self):
        for net, moments in samples(102, 150, 2, some_net):
            self.check(net, moments)
            for way in journeys(net, net.events)[:200]:
                one, other = way_ends(net, way)
                self.assertLessEqual(quickest(net, moments, one, other)[0], takes(net, moments, way))

    def test_parts_of_a_minute(self):
        chance = random.Random(103)
        for _ in range(40):
            net = Net(20, 5, [(i, (i + step) % 5, step, 18 + step) for i in range(5) for step in (1, 2)])
            moments = []
            while len(moments) < 5:
                bottom = chance.randint(10 ** 19, 10 ** 20)
                moments.append(Ratio(chance.randint(0, 20 * bottom - 1), bottom))
            if error_of(lengths, net, tuple(moments)) is None:
                self.check(net, tuple(moments))

    def test_at_the_limits(self):
        began = time.monotonic()
        chance = random.Random(104)
        spans = [(event, (event + 1) % 24, 1, 999) for event in range(24)]
        while len(spans) < 60:
            i, j = chance.sample(range(24), 2)
            if (i, j, 0, 998) not in spans:
                spans.append((i, j, 0, 998))
        net = Net(1000, 24, spans)
        moments = tuple([Ratio(3 * event * 10 ** 20 + event ** 9, 10 ** 20 + event) for event in range(24)])
        self.check(net, moments)
        self.assertLess(time.monotonic() - began, 8)

    def test_errors(self):
        for thing in things() + [(0, 3, 7, 9)]:
            self.assertEqual(error_of(quickest, line(), thing, None, 0), ("BadTimetable",))
        for thing in things() + [4, -1, True, 10 ** 40, Ratio(1, 1)]:
            for one, other in [(thing, 0), (0, thing), (thing, None), (thing, 4)]:
                error = error_of(quickest, line(), RIGHT, one, other)
                self.assertEqual(error[0], "BadEvent")
                self.assertIs(error[1], thing)
            self.assertEqual(error_of(quickest, line(), RIGHT, 4, thing), ("BadEvent", 4))


class BackTest(unittest.TestCase):

    def test_examples(self):
        self.assertIsNone(there_and_back(line(), MIRROR, RIGHT))
        self.assertIsNone(there_and_back(line(), OTHER, RIGHT))
        self.assertIsNone(there_and_back(line(), MIRROR, (0, 2, 4, 8)))
        way, first, second = there_and_back(line(), OTHER, (0, HALF + 2, 5, 8))
        self.assertIn((way, first, second), [(((0, True),), Ratio(5, 2), 3), (((2, True),), 3, Ratio(5, 2))])

    def test_none_exactly_if_even(self):
        seen = {True: 0, False: 0}
        for net, likeness, moments in mirrored(105, 250):
            told = there_and_back(net, likeness, moments)
            even = is_even(net, [likeness], moments)
            seen[even] += 1
            self.assertIs(told is None, even)
            if even:
                for way in journeys(net, 3)[:60]:
                    there = slow_ring_led(net, likeness, way)
                    self.assertEqual(takes(net, moments, way), takes(net, moments, there))
            else:
                way, first, second = told
                self.assertEqual(takes(net, moments, way), first)
                self.assertEqual(takes(net, moments, slow_ring_led(net, likeness, way)), second)
                self.assertNotEqual(first, second)
                self.assertTrue(is_plain(first) and is_plain(second))
        self.assertGreater(min(seen.values()), 50)

    def test_a_likeness_of_a_great_order(self):
        spans = [(event, (event + 1) % 23, 1, 3) for event in range(23)]
        mirror = (tuple([-event % 23 for event in range(23)]) + (23,), False)
        net = Net(23, 24, spans)
        self.assertIsNone(there_and_back(net, mirror, tuple(range(23)) + (0,)))
        self.assertEqual(quickest_unlike(net, mirror, tuple(range(23)) + (0,)), [])

    def test_quickest_unlike(self):
        self.assertEqual(quickest_unlike(line(), MIRROR, RIGHT), [])
        moments = (0, 4, 6, 8)
        self.assertEqual(lengths(line(), moments), (4, 2, 2, 2))
        self.assertEqual(quickest_unlike(line(), MIRROR, moments), [])
        unlike = quickest_unlike(line(), OTHER, moments)
        self.assertEqual(unlike, [(0, 1), (0, 2), (1, 0), (1, 3), (2, 0), (2, 3), (3, 1), (3, 2)])
        net = Net(10, 2, ((0, 1, 2, 10), (1, 0, 2, 10)))
        self.assertEqual(quickest_unlike(net, ((0, 1), False), (0, 4)), [(0, 1), (1, 0)])
        self.assertEqual(quickest_unlike(net, ((0, 1), False), (0, 5)), [])
        self.assertEqual(quickest_unlike(net, ((1, 0), False), (0, 4)), [])

    def test_against_quickest(self):
        some = 0
        for net, likeness, moments in mirrored(106, 200):
            told = quickest_unlike(net, likeness, moments)
            self.assertEqual(told, quickest_pairs(net, likeness, moments))
            # The ends of a span that is not as long as the one led to are such a pair, for sure.
            self.assertIs(told == [], is_even(net, [likeness], moments))
            some += len(told) > 0
            for one, other in [(one, other) for one in range(net.events) for other in range(net.events)]:
                there = quickest(net, moments, one, other)
                back = quickest(net, moments, likeness[0][other], likeness[0][one])
                self.assertIs(there is None, back is None)
                self.assertIs((one, other) in told, there is not None and there[0] != back[0])
        self.assertGreater(some, 20)

    def test_soon_at_the_limits(self):
        began = time.monotonic()
        net, turn = wheel(24)
        spans = list(net.spans) + [(j, i, low, high) for i, j, low, high in net.spans]
        net = Net(48, 24, [(i, j, 1, 47) for i, j, low, high in spans])
        moments = tuple([Ratio(2 * event * 10 ** 20 + event, 10 ** 20 + event) for event in range(24)])
        told = quickest_unlike(net, (tuple(range(24)), False), moments)
        self.assertEqual(told, quickest_pairs(net, (tuple(range(24)), False), moments))
        self.assertLess(time.monotonic() - began, 8)

    def test_errors(self):
        for call in (there_and_back, quickest_unlike):
            for thing in [thing for thing, told in not_likenesses()] + things() + [ROUND, SAME]:
                self.assertEqual(error_of(call, line(), thing, RIGHT), ("BadLikeness",))
                self.assertEqual(error_of(call, line(), thing, None), ("BadLikeness",))
            for thing in things() + [(0, 3, 7, 9), list(RIGHT)]:
                self.assertEqual(error_of(call, line(), MIRROR, thing), ("BadTimetable",))

    def test_lists_are_new(self):
        first = quickest_unlike(line(), OTHER, (0, 4, 6, 8))
        again = quickest_unlike(line(), OTHER, (0, 4, 6, 8))
        self.assertEqual(first, again)
        self.assertIsNot(first, again)


def quickest_pairs(net, likeness, moments):
    """The pairs that quickest_unlike is to tell, by going on as long as any journey is made shorter."""
    times = slow_quickest(net, lengths(net, moments))
    moved = likeness[0]
    found = []
    for one in range(net.events):
        for other in range(net.events):
            if times.get((one, other)) != times.get((moved[other], moved[one])):
                found.append((one, other))
    return found


if __name__ == "__main__":
    unittest.main()
