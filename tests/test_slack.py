"""Slack: points 16.1 to 16.3."""

import itertools
import random
import time
import unittest
from fractions import Fraction

from likespans.evening import even_islands, is_even
from likespans.islands import island_of, islands, rounds
from likespans.nets import Net, pieces
from likespans.ratios import Ratio
from likespans.slack import is_widest, slack, widest, widest_even, widest_of_all
from likespans.timetables import is_timetable, lengths
from likespans.ways import is_ring, step_ends
from tests.slow import alike_net, slow_lengths, slow_timetables, some_net
from tests.test_islands import flower, none, two_rings
from tests.test_likes import MIRROR, ROUND
from tests.things import error_of, fraction, is_plain, line, ratio, things

RIGHT = (0, 3, 5, 8)
HALF = Ratio(1, 2)
RING = ((0, True), (1, True), (2, True), (3, True))


def slow_slack(net, timetable):
    """The slack by the lengths, as a Fraction."""
    row = [fraction(number) for number in lengths(net, timetable)]
    return min([min(number - span[2], span[3] - number) for span, number in zip(net.spans, row)])


def ring_allows(net, number, ring, timetable):
    """Whether a ring allows just this slack, by the words of 16.2."""
    total = Fraction(0)
    for index, forth in ring:
        low, high = net.spans[index][2:]
        total += low + fraction(number) if forth else fraction(number) - high
    return total == net.beat * rounds(net, timetable, ring)


def simple_rings(net):
    """All rings that go along no event twice, a span forth and back too."""
    steps = [(index, forth) for index in range(len(net.spans)) for forth in (True, False)]
    found = []
    ways = [(step,) for step in steps]
    while ways:
        way = ways.pop()
        start, end = step_ends(net, way[0])[0], step_ends(net, way[-1])[1]
        if start == end:
            found.append(way)
            continue
        seen = [step_ends(net, step)[1] for step in way]
        for step in steps:
            here, there = step_ends(net, step)
            if here == end and there not in seen:
                ways.append(way + (step,))
    return found


def slow_widest(net, timetable):
    """The greatest slack in the island of a timetable: what the strictest of all rings allows."""
    found = []
    for ring in simple_rings(net):
        total = net.beat * rounds(net, timetable, ring)
        for index, forth in ring:
            total += -net.spans[index][2] if forth else net.spans[index][3]
        found.append(Fraction(total, len(ring)))
    return min(found)


def wide_net(chance):
    """A net of few events whose spans have wide bounds, so that it has several islands."""
    beat = chance.randint(5, 9)
    events = chance.choice([2, 3, 3, 4])
    spans = []
    while len(spans) < events + 2:
        i, j = chance.sample(range(events), 2)
        low = chance.randint(0, beat)
        span = (i, j, low, low + chance.randint(beat // 2, beat - 2))
        if span not in spans:
            spans.append(span)
    return Net(beat, events, spans)


def parted():
    """A net of three pieces, with timetables: three events with two rings, two with one, and one alone."""
    return Net(10, 6, ((0, 1, 2, 4), (2, 1, 1, 3), (0, 2, 0, 3), (4, 3, 1, 1), (3, 4, 2, 9), (1, 0, 5, 9)))


def least_timetables(net):
    """A whole timetable for each island of a small net."""
    found = {}
    for moments in slow_timetables(net):
        found.setdefault(island_of(net, moments), moments)
    return found


class SlackTest(unittest.TestCase):

    def test_examples(self):
        for timetable, told in [
            (RIGHT, 1), ((0, 2, 3, 7), 0), ((0, 3, 4, 8), 0), ((HALF, Ratio(7, 2), 5, 8), HALF), ((0, 3, Ratio(16, 3), 8), Ratio(2, 3)),
        ]:
            self.assertEqual(slack(line(), timetable), told)
        self.assertEqual(slack(Net(10, 2, ((0, 1, 5, 5),)), (9, 4)), 0)
        self.assertEqual(slack(Net(10, 2, ((0, 1, 5, 10),)), (9, 7)), 2)
        part = Ratio(1, 10 ** 40)
        self.assertEqual(slack(Net(10, 2, ((0, 1, 5, 10),)), (0, part + 7)), part + 2)
        self.assertEqual(slack(Net(10, 2, ((0, 1, 5, 10),)), (0, part + 8)), 2 - part)

    def test_by_the_lengths(self):
        chance = random.Random(160)
        seen = 0
        for _ in range(200):
            net = some_net(chance)
            for moments in slow_timetables(net)[:20]:
                finer = [(fraction(moment) + Fraction(chance.randint(0, 2), 7)) % net.beat for moment in moments]
                for timetable in (moments, tuple([ratio(moment) for moment in finer])):
                    if net.spans and is_timetable(net, timetable):
                        told = slack(net, timetable)
                        self.assertTrue(is_plain(told))
                        self.assertEqual(fraction(told), slow_slack(net, timetable))
                        seen += 1
        self.assertGreater(seen, 500)

    def test_errors_in_order(self):
        for thing in things() + [(0, 3, 7, 9), list(RIGHT)]:
            self.assertEqual(error_of(slack, line(), thing), ("BadTimetable",))
            self.assertEqual(error_of(slack, Net(10, 3, ()), thing), ("BadTimetable",))
        self.assertEqual(error_of(slack, Net(10, 3, ()), (0, 1, 2)), ("NoSpans",))


class WidestTest(unittest.TestCase):

    def check(self, net, island, told):
        """Whether an answer is what the document says."""
        number, timetable, ring = told
        self.assertIsInstance(told, tuple)
        self.assertTrue(is_plain(number))
        self.assertTrue(is_timetable(net, timetable))
        self.assertTrue(all([is_plain(moment) for moment in timetable]))
        self.assertEqual(island_of(net, timetable), island)
        self.assertEqual([timetable[piece[0]] for piece in pieces(net)], [0] * len(pieces(net)))
        self.assertEqual(slow_slack(net, timetable), fraction(number))
        self.assertTrue(is_ring(net, ring))
        self.assertTrue(ring_allows(net, number, ring, timetable))
        self.assertTrue(is_widest(net, island, told))

    def test_examples(self):
        self.check(line(), (1,), widest(line(), (1,)))
        self.assertEqual(widest(line(), (1,)), (1, (0, 3, 5, 8), widest(line(), (1,))[2]))
        # A tree, one span, and spans of no width.
        self.assertEqual(widest(Net(10, 2, ((0, 1, 2, 7),)), ())[:2], (Ratio(5, 2), (0, Ratio(9, 2))))
        self.assertIn(widest(Net(10, 2, ((0, 1, 2, 7),)), ())[2], [((0, True), (0, False)), ((0, False), (0, True))])
        told = widest(Net(10, 4, ((0, 1, 2, 7), (3, 2, 5, 9), (1, 3, 0, 8))), ())
        self.assertEqual(told[0], 2)
        self.assertEqual(sorted(told[2]), [(1, False), (1, True)])
        self.assertEqual(widest(Net(10, 3, ((0, 1, 2, 7), (1, 2, 4, 4))), ())[0], 0)

    def test_fractions(self):
        # Three spans from 0 to 4 that sum to 10: at most 10 / 3 each, so the slack is 2 / 3.
        net = Net(10, 3, ((0, 1, 0, 4), (1, 2, 0, 4), (2, 0, 0, 4)))
        self.assertEqual(widest(net, (1,))[:2], (Ratio(2, 3), (0, Ratio(10, 3), Ratio(20, 3))))
        self.check(net, (1,), widest(net, (1,)))
        # As great a denominator as a ring has spans.
        net = Net(1440, 24, [(event, (event + 1) % 24, 0, 1438) for event in range(24)])
        self.check(net, (1,), widest(net, (1,)))
        self.assertEqual(widest(net, (1,))[0], 60)
        net = Net(1440, 23, [(event, (event + 1) % 23, 0, 1438) for event in range(23)])
        self.assertEqual(widest(net, (1,))[0], Ratio(1440, 23))
        self.assertEqual(widest(net, (22,))[0], Ratio(23 * 1438 - 22 * 1440, 23))
        self.check(net, (22,), widest(net, (22,)))

    def test_against_all_rings(self):
        chance = random.Random(161)
        seen = {}
        for _ in range(250):
            net = some_net(chance)
            if not net.spans:
                continue
            for island, timetable in least_timetables(net).items():
                told = widest(net, island)
                self.check(net, island, told)
                self.assertEqual(fraction(told[0]), slow_widest(net, timetable))
                seen[fraction(told[0]).denominator] = True
                seen[("pieces", len(pieces(net)))] = True
        for key in [1, 2, 3, ("pieces", 1), ("pieces", 2)]:
            self.assertIn(key, seen)

    def test_great_nets(self):
        chance = random.Random(162)
        for beat in (3, 60, 60, 1440, 1440):
            moments = tuple([chance.randrange(beat) for _ in range(24)])
            spans = []
            while len(spans) < 60:
                i, j = chance.sample(range(24), 2) if len(spans) > 22 else (chance.randint(0, len(spans)), len(spans) + 1)
                # Bounds about what the moments allow.
                length = (moments[j] - moments[i]) % beat + chance.randint(0, 1) * beat
                low = max(0, length - chance.randint(0, beat // 3))
                span = (i, j, low, min(length + chance.randint(0, beat // 3), low + beat - 2, 2880))
                if span not in spans:
                    spans.append(span)
            net = Net(beat, 24, spans)
            island = island_of(net, moments)
            start = time.time()
            told = widest(net, island)
            self.assertLess(time.time() - start, 1)
            self.check(net, island, told)

    def test_errors_in_order(self):
        for net in (line(), Net(10, 2, ())):
            for thing in things() + [(1, 1), [1], (True,), (Ratio(1, 1),), (None,)]:
                right = (0,) if len(net.spans) else ()
                if thing != right:
                    self.assertEqual(error_of(widest, net, thing), ("BadIsland", -1))
        self.assertEqual(error_of(widest, line(), (0,)), ("BadIsland", -2))
        self.assertEqual(error_of(widest, line(), (2,)), ("BadIsland", -2))
        self.assertEqual(error_of(widest, none(), (0, 0)), ("BadIsland", -2))
        self.assertEqual(error_of(widest, Net(10, 2, ()), ()), ("NoSpans",))


class IsWidestTest(unittest.TestCase):

    def test_right_papers(self):
        net = line()
        # The ring of the line shows it, too: 2 + 1 + 2 + 1 and 4 times the slack are the beat.
        for ring in (RING, RING * 2, RING[2:] + RING[:2], tuple([(index, False) for index in (3, 2, 1, 0)])):
            self.assertIs(is_widest(net, (1,), (1, RIGHT, ring)), True)
        self.assertIs(is_widest(net, (1,), (1, RIGHT, RING + ((0, True), (0, False)))), True)
        for index in range(4):
            self.assertIs(is_widest(net, (1,), (1, RIGHT, ((index, True), (index, False)))), True)
            self.assertIs(is_widest(net, (1,), (1, RIGHT, ((index, False), (index, True)) * 3)), True)
        # Numbers that are equal are as good.
        ring = ((1, True), (1, False))
        self.assertIs(is_widest(net, (1,), (Ratio(1, 1), (Ratio(0, 1), 3, Ratio(10, 2), 8), ring)), True)
        # Another timetable and another ring, gone twice; spans of two pieces.
        net = Net(10, 5, ((0, 1, 0, 4), (1, 2, 0, 4), (2, 0, 0, 4), (3, 4, 1, 8)))
        ring = ((0, False), (2, False), (1, False))
        third = Ratio(1, 3)
        for moment in (5, Ratio(9, 2), third + 4):
            right = (Ratio(2, 3), (0, third * 10, third * 20, 0, moment), ring)
            self.assertIs(is_widest(net, (1,), right), True)
            self.assertIs(is_widest(net, (1,), right[:2] + (ring * 2,)), True)
            self.assertIs(is_widest(net, (1,), right[:2] + (ring[1:] + ring[:1],)), True)
        # A span of the other piece has more slack than that.
        self.assertIs(is_widest(net, (1,), (Ratio(2, 3), (0, third * 10, third * 20, 0, third), ring)), False)

    def test_spoiled_papers(self):
        net = Net(10, 5, ((0, 1, 0, 4), (1, 2, 0, 4), (2, 0, 0, 4), (3, 4, 1, 8)))
        third = Ratio(1, 3)
        number, timetable, ring = right = (Ratio(2, 3), (0, third * 10, third * 20, 0, 5), ((0, False), (2, False), (1, False)))
        self.assertIs(is_widest(net, (1,), right), True)
        for thing in things() + [list(right), right[:2], right + (0,), ("widest",) + right, (), ring]:
            self.assertIs(is_widest(net, (1,), thing), False)
        for thing in things():
            for at in range(3):
                self.assertIs(is_widest(net, (1,), right[:at] + (thing,) + right[at + 1:]), False)
        for other in (0, 1, HALF, Ratio(-2, 3), Ratio(3, 2), Ratio(200001, 300000), 0.6666666666666666, Fraction(2, 3), "2/3"):
            self.assertIs(is_widest(net, (1,), (other, timetable, ring)), False)
        for other in [
            (0, 3, 6, 0, 5), (0, third * 10, 7, 0, 5), (0, third * 10, third * 20, 0, 0), (1, third * 13, third * 23, 0, 5),
            (0, third * 10, third * 20, 1, 6), list(timetable), (0, third * 10, third * 20, 0), (0, third * 10, third * 20, 0, 15),
        ]:
            self.assertIs(is_widest(net, (1,), (number, other, ring)), False)
        for other in [
            ring[::-1], tuple([(index, True) for index in (0, 1, 2)]), ring[:2], ring + ring[:1], ((0, True), (0, False)),
            ((3, True), (3, False)), list(ring), (), ((0, False), (2, False), (1, 0)), ((0, 0), (2, 0), (1, 0)), ((5, True), (5, False)),
        ]:
            self.assertIs(is_widest(net, (1,), (number, timetable, other)), False)
        # A timetable of another island.
        net = two_rings()
        for island, other in itertools.permutations(islands(net), 2):
            self.assertIs(is_widest(net, island, widest(net, other)), False)
            self.assertIs(is_widest(net, other, widest(net, other)), True)
        # A slack that is told right and shown by no ring; flags are no numbers.
        net = Net(10, 2, ((0, 1, 2, 4),))
        self.assertIs(is_widest(net, (), (1, (0, 3), ((0, True), (0, False)))), True)
        self.assertIs(is_widest(net, (), (True, (0, 3), ((0, True), (0, False)))), False)
        self.assertIs(is_widest(net, (), (1, (False, 3), ((0, True), (0, False)))), False)
        self.assertIs(is_widest(net, (), (1, (0, 3), ((False, True), (0, False)))), False)
        self.assertIs(is_widest(net, (), (0, (0, 2), ((0, True), (0, False)))), False)


class WidestOfAllTest(unittest.TestCase):

    def test_examples(self):
        self.assertEqual(widest_of_all(line()), (1, (1,)))
        self.assertEqual(widest_of_all(Net(10, 2, ((0, 1, 2, 7),))), (Ratio(5, 2), ()))
        # The second island of three, and the first one of two that are alike.
        net = Net(10, 2, ((0, 1, 0, 8), (1, 0, 0, 8)))
        self.assertEqual(islands(net), [(0,), (1,)])
        self.assertEqual(widest_of_all(net), (3, (1,)))
        net = Net(10, 2, ((0, 1, 1, 9), (1, 0, 1, 9)))
        self.assertEqual(widest_of_all(net), (4, (1,)))
        net = Net(10, 2, ((0, 1, 6, 14), (1, 0, 1, 9)))
        self.assertEqual(widest_of_all(net), (Ratio(3, 2), (1,)))
        # Islands with the same slack: a narrow span beside them.
        net = Net(10, 3, ((0, 1, 6, 14), (1, 0, 1, 9), (1, 2, 3, 5)))
        self.assertEqual([widest(net, island)[0] for island in islands(net)], [1, 1])
        self.assertEqual(widest_of_all(net), (1, (1,)))

    def test_against_all_islands(self):
        chance = random.Random(163)
        seen = {}
        for turn in range(300):
            net = some_net(chance) if turn % 3 == 0 else wide_net(chance)
            rows = islands(net)
            if not net.spans or not rows:
                continue
            found = {}
            for island in rows:
                found.setdefault(fraction(widest(net, island)[0]), island)
            told = widest_of_all(net)
            self.assertEqual((fraction(told[0]), told[1]), (max(found), found[max(found)]))
            self.assertTrue(is_plain(told[0]))
            seen[rows.index(told[1])] = True
            seen[("many", len(rows) > 3)] = True
        for key in [0, 1, 2, ("many", True)]:
            self.assertIn(key, seen)

    def test_many_islands(self):
        start = time.time()
        net = flower(7)
        number, island = widest_of_all(net)
        self.assertLess(time.time() - start, 2)
        # Each of the seven rings has three spans from 0 to 7: at best they sum to 9, and each takes 3.
        self.assertEqual((number, island), (3, (1,) * 7))
        self.assertEqual(widest(net, island)[0], number)

    def test_errors_in_order(self):
        self.assertEqual(error_of(widest_of_all, Net(10, 2, ())), ("NoSpans",))
        self.assertEqual(error_of(widest_of_all, none()), ("NoTimetable",))
        self.assertEqual(error_of(widest_of_all, Net(10, 2, ((0, 1, 2, 4), (1, 0, 2, 4)))), ("NoTimetable",))


class WidestEvenTest(unittest.TestCase):

    def check(self, net, lot, told):
        """Whether an answer is what going over the even islands tells."""
        rows = even_islands(net, lot)
        if not rows:
            self.assertIsNone(told)
            return
        found = {}
        for island in rows:
            found.setdefault(fraction(widest(net, island)[0]), island)
        number, island, timetable = told
        self.assertTrue(is_plain(number))
        self.assertEqual((fraction(number), island), (max(found), found[max(found)]))
        self.assertTrue(is_even(net, lot, timetable))
        self.assertTrue(all([is_plain(moment) for moment in timetable]))
        self.assertEqual(island_of(net, timetable), island)
        self.assertEqual([timetable[piece[0]] for piece in pieces(net)], [0] * len(pieces(net)))
        self.assertEqual(slack(net, timetable), number)

    def test_examples(self):
        for lot in ([], [ROUND], [MIRROR], [ROUND, MIRROR]):
            self.assertEqual(widest_even(line(), lot), (1, (1,), RIGHT))
        self.check(parted(), [], widest_even(parted(), []))
        self.assertEqual(widest_even(parted(), [])[:2], (0, (0, 1, 1)))
        # Two spans from 0 to 1: the likeness that exchanges out and home turns each ring round.
        net = Net(10, 2, ((0, 1, 0, 8), (1, 0, 0, 8)))
        self.assertEqual(widest_even(net, [((1, 0), True)]), (3, (1,), (0, 5)))

    def test_none_is_even(self):
        net = Net(10, 2, ((0, 1, 2, 4), (1, 0, 2, 4)))
        self.assertIsNone(widest_even(net, []))
        self.assertIsNone(widest_even(none(), []))
        found = 0
        chance = random.Random(164)
        for _ in range(300):
            net, lot = alike_net(chance)
            if islands(net) and not even_islands(net, lot):
                found += 1
                self.assertIsNone(widest_even(net, lot))
        self.assertGreater(found, 0)

    def test_against_going_over_even_islands(self):
        chance = random.Random(165)
        seen = {}
        for _ in range(200):
            net, lot = alike_net(chance)
            told = widest_even(net, lot)
            self.check(net, lot, told)
            seen[told is None] = seen.get(told is None, 0) + 1
            if told is not None:
                # No even timetable in halves or thirds of a minute has more.
                for moments in slow_timetables(net):
                    row = slow_lengths(net, moments)
                    if is_even(net, lot, moments):
                        self.assertLessEqual(slow_slack(net, moments), fraction(told[0]), row)
        self.assertGreater(min(seen.values()), 5)

    def test_errors_in_order(self):
        for thing in things() + [[MIRROR] * 7, 5, None]:
            error = error_of(widest_even, line(), thing)
            self.assertTrue(error is None or error[0] == "BadLot", thing)
            self.assertEqual(error_of(widest_even, Net(10, 4, ()), thing) in (error, ("NoSpans",)), True)
        self.assertEqual(error_of(widest_even, line(), None), ("BadLot", -1))
        self.assertEqual(error_of(widest_even, line(), [MIRROR] * 7), ("BadLot", -1))
        self.assertEqual(error_of(widest_even, line(), [MIRROR, ROUND, RING]), ("BadLot", 2))
        bare = Net(10, 24, ())
        turn = (tuple([(event + 1) % 24 for event in range(24)]), True)
        swap = ((1, 0) + tuple(range(2, 24)), True)
        self.assertEqual(error_of(widest_even, bare, [turn, swap]), ("TooMany", 48))
        self.assertEqual(error_of(widest_even, bare, [turn]), ("NoSpans",))
        self.assertEqual(error_of(widest_even, bare, []), ("NoSpans",))


if __name__ == "__main__":
    unittest.main()
