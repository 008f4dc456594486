"""Lateness: points 18.1 and 18.2."""

import random
import time
import unittest
from fractions import Fraction

from likespans.lateness import is_late, late, late_until
from likespans.nets import Net
from likespans.ratios import Ratio
from likespans.timetables import from_lengths, is_timetable, lengths
from tests.slow import slow_timetables, some_net
from tests.things import error_of, fraction, is_plain, line, ratio, things

RIGHT = (0, 3, 5, 8)
# The line with no reserve at all: its ring takes a beat.
TIGHT = Net(10, 4, ((0, 1, 3, 5), (1, 2, 2, 4), (2, 3, 3, 5), (3, 0, 2, 4)))
RING = ((0, True), (1, True), (2, True), (3, True))
HALF = Ratio(1, 2)
ENDS = ("ends", (1, 0, 0, 0))


def chain():
    """Events one behind the other, with reserves 1, 2, 0 and 3, and one that goes off behind the second one."""
    net = Net(10, 6, ((0, 1, 2, 6), (1, 2, 3, 8), (2, 3, 4, 9), (3, 4, 1, 5), (1, 5, 25, 30)))
    return net, from_lengths(net, (3, 5, 4, 4, 26))[1]


def slow_late(net, timetable, event, minutes, last):
    """The lateness of each event on each beat up to a last one, as Fractions, let go on until no more comes."""
    row = [fraction(number) for number in lengths(net, timetable)]
    moments = [fraction(moment) for moment in timetable]
    found = {(event, 0): fraction(minutes)}
    fresh = [(event, 0)]
    while fresh:
        one, beat = fresh.pop()
        for span, number in [(span, number) for span, number in zip(net.spans, row) if span[0] == one]:
            more = found[(one, beat)] - (number - span[2])
            there = (moments[one] + beat * net.beat + number - moments[span[1]]) / net.beat
            assert there.denominator == 1 and there >= beat
            if more > 0 and there <= last and more > found.get((span[1], int(there)), 0):
                found[(span[1], int(there))] = more
                fresh.append((span[1], int(there)))
    return found


def some_case(chance):
    """A net of few events with spans of length 0 and without reserve among others, a timetable, an event and minutes."""
    while True:
        beat = chance.randint(3, 6)
        events = chance.randint(2, 5)
        moments = [chance.choice([0, 0, 1, 2]) for _ in range(events)]
        spans = []
        for _ in range(chance.randint(1, 7)):
            i, j = chance.sample(range(events), 2)
            number = (moments[j] - moments[i]) % beat + chance.choice([0, 0, 0, beat])
            low = max(0, number - chance.choice([0, 0, 0, 1, 2]))
            span = (i, j, low, min(number + chance.randint(0, 1), low + beat - 2))
            if number <= span[3] and span not in spans:
                spans.append(span)
        net = Net(beat, events, spans)
        timetable = tuple(moments)
        if chance.random() < 0.4:
            parts = chance.choice([2, 3])
            timetable = tuple([ratio(Fraction(moment * parts + chance.randint(0, 1), parts)) for moment in moments])
        if is_timetable(net, timetable):
            return net, timetable, chance.randrange(events), ratio(Fraction(chance.randint(1, 12), chance.choice([1, 1, 2, 3])))


class LateTest(unittest.TestCase):

    def test_examples(self):
        self.assertEqual(late(line(), RIGHT, 0, 1), ("ends", (1, 0, 0, 0)))
        self.assertEqual(late(line(), RIGHT, 0, 4), ("ends", (4, 3, 2, 1)))
        self.assertEqual(late(line(), RIGHT, 2, 3), ("ends", (1, 0, 3, 2)))
        self.assertEqual(late(line(), RIGHT, 3, Ratio(7, 3)), ("ends", (Ratio(4, 3), Ratio(1, 3), 0, Ratio(7, 3))))
        # Round the ring 4 minutes of reserve: more lateness comes back to the event, but less of it.
        self.assertEqual(late(line(), RIGHT, 1, 100), ("ends", (97, 100, 99, 98)))
        self.assertEqual(late(line(), RIGHT, 0, Ratio(8, 2)), ("ends", (4, 3, 2, 1)))
        self.assertTrue(all([type(number) is int for number in late(line(), RIGHT, 0, Ratio(8, 2))[1]]))
        self.assertIsInstance(late(line(), RIGHT, 0, 1)[1], tuple)

    def test_chains(self):
        net, timetable = chain()
        for event, minutes, told in [
            (0, 1, (1, 0, 0, 0, 0, 0)), (0, 2, (2, 1, 0, 0, 0, 0)), (0, 3, (3, 2, 0, 0, 0, 1)), (0, 4, (4, 3, 1, 1, 0, 2)),
            (0, 7, (7, 6, 4, 4, 1, 5)), (2, HALF, (0, 0, HALF, HALF, 0, 0)), (3, 3, (0, 0, 0, 3, 0, 0)), (4, 9, (0, 0, 0, 0, 9, 0)),
            (5, 1, (0, 0, 0, 0, 0, 1)), (0, Ratio(13, 4), (Ratio(13, 4), Ratio(9, 4), Ratio(1, 4), Ratio(1, 4), 0, Ratio(5, 4))),
        ]:
            self.assertEqual(late(net, timetable, event, minutes), ("ends", told))
            self.assertIs(is_late(net, timetable, event, minutes, ("ends", told)), True)
        # Two ways to an event: the one with less reserve counts.
        net = Net(10, 3, ((0, 1, 1, 5), (1, 2, 1, 5), (0, 2, 1, 7)))
        self.assertEqual(late(net, (0, 2, 5), 0, 6), ("ends", (6, 5, 3)))
        self.assertEqual(late(net, (0, 1, 5), 0, 6), ("ends", (6, 6, 3)))
        self.assertEqual(late(net, (0, 4, 6), 0, 6), ("ends", (6, 3, 2)))

    def test_rings_without_reserve(self):
        told = late(TIGHT, RIGHT, 0, Ratio(1, 10 ** 39))
        self.assertEqual(told[0], "endless")
        for event in range(4):
            told = late(TIGHT, RIGHT, event, 1)
            self.assertEqual(told[0], "endless")
            self.assertIs(is_late(TIGHT, RIGHT, event, 1, told), True)
        # Spans of one minute, the least that takes time.
        net = Net(3, 3, ((0, 1, 1, 2), (1, 2, 1, 2), (2, 0, 1, 2)))
        self.assertEqual(late(net, (0, 1, 2), 1, 1)[0], "endless")
        net = Net(3, 3, ((0, 1, 0, 1), (1, 2, 1, 2), (2, 0, 2, 2)))
        self.assertEqual(late(net, (0, 0, 1), 1, 1)[0], "endless")
        # A ring that is come to while late, and one that is not.
        net = Net(10, 6, TIGHT.spans + ((4, 0, 1, 5), (5, 4, 1, 5)))
        timetable = RIGHT + (7, 4)
        self.assertEqual(lengths(net, timetable)[4:], (3, 3))
        for event, minutes, name in [
            (4, 2, "ends"), (4, Ratio(9, 4), "endless"), (4, 3, "endless"), (5, 4, "ends"), (5, Ratio(41, 10), "endless"), (5, 2, "ends"),
        ]:
            told = late(net, timetable, event, minutes)
            self.assertEqual(told[0], name)
            self.assertIs(is_late(net, timetable, event, minutes, told), True)
        self.assertEqual(late(net, timetable, 5, 4), ("ends", (0, 0, 0, 0, 2, 4)))
        self.assertEqual(late(net, timetable, 5, 2), ("ends", (0, 0, 0, 0, 0, 2)))

    def test_rings_that_take_no_time(self):
        # Lateness goes round spans of length 0 on one beat: it is no later for it.
        net = Net(10, 3, ((0, 1, 0, 3), (1, 0, 0, 3), (1, 2, 2, 5)))
        self.assertEqual(late(net, (4, 4, 7), 0, 3), ("ends", (3, 3, 2)))
        self.assertEqual(late(net, (4, 4, 6), 1, 3), ("ends", (3, 3, 3)))
        # One span more that takes a beat and has no reserve, or has some.
        net = Net(10, 3, ((0, 1, 0, 3), (1, 0, 0, 3), (1, 0, 10, 12)))
        self.assertEqual(late(net, (4, 4, 0), 0, 3)[0], "endless")
        self.assertEqual(late(net, (4, 4, 0), 2, 3), ("ends", (0, 0, 3)))
        net = Net(10, 3, ((0, 1, 0, 3), (1, 0, 0, 3), (1, 0, 9, 12)))
        self.assertEqual(late(net, (4, 4, 0), 0, 3), ("ends", (3, 3, 0)))

    def test_against_going_on_beat_by_beat(self):
        chance = random.Random(180)
        seen = {}
        for _ in range(400):
            net, timetable, event, minutes = some_case(chance)
            told = late(net, timetable, event, minutes)
            # Where lateness ends it does so before all reserves, of which there are parts, have been gone round for it.
            last = 200
            found = slow_late(net, timetable, event, minutes, last)
            endless = max([beat for one, beat in found]) > last - 20
            self.assertEqual(told[0], "endless" if endless else "ends")
            self.assertIs(is_late(net, timetable, event, minutes, told), True)
            if not endless:
                self.assertTrue(all([is_plain(number) for number in told[1]]))
                row = [max([number for (one, beat), number in found.items() if one == other] + [0]) for other in range(net.events)]
                self.assertEqual([fraction(number) for number in told[1]], row)
            seen[told[0], len(told) > 2 and told[1] == ()] = seen.get((told[0], len(told) > 2 and told[1] == ()), 0) + 1
        self.assertEqual(len(seen), 3)
        self.assertGreater(min(seen.values()), 20)

    def test_great_nets(self):
        chance = random.Random(181)
        for _ in range(4):
            net = Net(1440, 24, [(event, (event + 1) % 24, 0, 1438) for event in range(24)] + [(event, (event + 7) % 24, 1, 1439) for event in range(24)])
            timetable = tuple([Ratio(chance.randrange(10 ** 40), 10 ** 37 + event) for event in range(24)])
            timetable = tuple([moment.rest(1440) for moment in timetable])
            if is_timetable(net, timetable):
                start = time.time()
                told = late(net, timetable, 3, Ratio(10 ** 40, 7))
                self.assertTrue(is_late(net, timetable, 3, Ratio(10 ** 40, 7), told))
                late_until(net, timetable, 3, Ratio(10 ** 40, 7), 40)
                self.assertLess(time.time() - start, 2)

    def test_errors_in_order(self):
        for thing in things() + [(0, 3, 7, 9), list(RIGHT)]:
            self.assertEqual(error_of(late, line(), thing, None, None), ("BadTimetable",))
        for thing in things() + [4, 24]:
            error = error_of(late, line(), RIGHT, thing, None)
            self.assertEqual(error[0], "BadEvent")
            self.assertIs(error[1], thing)
        for thing in things() + [0, -5, Ratio(0, 3), Ratio(-1, 3), "1", [1]]:
            error = error_of(late, line(), RIGHT, 0, thing)
            number = isinstance(thing, Ratio) or (isinstance(thing, int) and not isinstance(thing, bool))
            if number and fraction(thing) > 0:
                self.assertIsNone(error)
            else:
                self.assertEqual(error[0], "BadMinutes")
                self.assertIs(error[1], thing)


class IsLateTest(unittest.TestCase):

    def judge(self, event, minutes, way, ring):
        """What is judged of an answer for the net with a ring without reserve and a way to it."""
        net = Net(10, 6, TIGHT.spans + ((4, 0, 1, 5), (5, 4, 1, 5)))
        return is_late(net, RIGHT + (7, 4), event, minutes, ("endless", way, ring))

    def test_right_papers(self):
        for ring in (RING, RING * 2, RING * 3):
            self.assertIs(self.judge(0, 1, (), ring), True)
            # A way that comes round to the event again.
            self.assertIs(self.judge(0, 1, RING, ring), True)
            self.assertIs(self.judge(4, 3, ((4, True),), ring), True)
            self.assertIs(self.judge(4, 3, ((4, True),) + RING, ring), True)
            self.assertIs(self.judge(5, 5, ((5, True), (4, True)), ring), True)
        self.assertIs(self.judge(4, 3, ((4, True), (0, True)), RING[1:] + RING[:1]), True)
        self.assertIs(self.judge(1, Ratio(1, 9), ((1, True),), RING[2:] + RING[:2]), True)
        self.assertIs(self.judge(4, Ratio(201, 100), ((4, True),), RING), True)

    def test_spoiled_papers(self):
        for event, minutes, way, ring in [
            # The way does not begin at the event, does not lead to the ring, or leads beyond where it begins.
            (1, 1, (), RING), (0, 1, (), RING[1:] + RING[:1]), (4, 3, (), RING), (5, 5, ((4, True),), RING), (4, 3, ((5, True), (4, True)), RING),
            (4, 3, ((4, True), (0, True)), RING), (5, 5, ((5, True),), RING), (0, 1, RING[:2], RING), (4, 3, ((4, True),), RING[1:] + RING[:1]),
            # The reserves on the way are as much as the minutes, or more.
            (4, 2, ((4, True),), RING), (4, 1, ((4, True),), RING), (5, 4, ((5, True), (4, True)), RING),
            # Not forth, no way, no ring.
            (0, 1, (), ((3, False), (2, False), (1, False), (0, False))), (0, 1, ((0, True), (0, False)), RING), (4, 3, ((4, True),), ()),
            (4, 3, ((4, True),), RING[:3]), (0, 1, [], RING), (0, 1, (), list(RING)), (0, 1, None, RING), (0, 1, (), None),
            (0, 1, ((4, False), (4, True)), RING), (0, 1, (), RING + ((0, True), (0, False))), (0, 1, ((0, 1),), RING), (0, 1, ((9, True),), RING),
        ]:
            self.assertIs(self.judge(event, minutes, way, ring), False, (event, minutes, way, ring))
        # Reserve on the ring, and a ring that takes no time.
        self.assertIs(is_late(line(), RIGHT, 0, 100, ("endless", (), RING)), False)
        net = Net(10, 2, ((0, 1, 0, 3), (1, 0, 0, 3), (1, 0, 10, 12)))
        both = ((0, True), (1, True))
        self.assertIs(is_late(net, (4, 4), 0, 1, ("endless", (), both)), False)
        self.assertIs(is_late(net, (4, 4), 0, 1, ("endless", (), ((0, True), (2, True)))), True)
        self.assertIs(is_late(net, (4, 4), 0, 1, ("endless", both, both + ((0, True), (2, True)))), True)
        self.assertIs(is_late(net, (4, 4), 0, 1, ("endless", both, both * 2)), False)

    def test_rows(self):
        for row, right in [
            ((4, 3, 2, 1), True), ((4, 3, 2, Ratio(1, 1)), True), ((Ratio(8, 2), Ratio(3, 1), 2, 1), True), ((4, 3, 2, True), False),
            ((4, 3, 2, 0), False), ((4, 3, 2), False), ((4, 3, 2, 1, 0), False), ([4, 3, 2, 1], False), ((4.0, 3, 2, 1), False),
            ((5, 3, 2, 1), False), ((4, 3, 3, 1), False), ((0, 3, 2, 1), False), ((), False), ("4321", False), ((4, 3, 2, None), False),
            ((4, 3, 2, "1"), False), (((4,), 3, 2, 1), False), ((Fraction(4), 3, 2, 1), False),
        ]:
            self.assertIs(is_late(line(), RIGHT, 0, 4, ("ends", row)), right, row)
        self.assertIs(is_late(line(), RIGHT, 0, 1, ("ends", (1, False, 0, 0))), False)
        self.assertIs(is_late(line(), RIGHT, 0, 1, ("ends", (True, 0, 0, 0))), False)
        for row in [(1, 1, 1, 1), (1, 0, 0, 0), (), None]:
            self.assertIs(is_late(TIGHT, RIGHT, 0, 1, ("ends", row)), False)

    def test_things(self):
        for net, minutes in [(line(), 4), (TIGHT, 1)]:
            told = late(net, RIGHT, 0, minutes)
            for thing in things() + [list(told), told[:1], told + (0,), told[::-1], ("endless",), ("late",) + told[1:], told[1]]:
                self.assertIs(is_late(net, RIGHT, 0, minutes, thing), False)
                for at in range(len(told)):
                    if thing != told[at]:
                        self.assertIs(is_late(net, RIGHT, 0, minutes, told[:at] + (thing,) + told[at + 1:]), False)


class LateUntilTest(unittest.TestCase):

    def test_examples(self):
        self.assertEqual(late_until(line(), RIGHT, 0, 4, 0), [(0, 0, 4), (1, 0, 3), (2, 0, 2), (3, 0, 1)])
        self.assertEqual(late_until(line(), RIGHT, 2, 4, 0), [(2, 0, 4), (3, 0, 3)])
        self.assertEqual(late_until(line(), RIGHT, 2, 4, 5), [(0, 1, 2), (1, 1, 1), (2, 0, 4), (3, 0, 3)])
        self.assertEqual(late_until(line(), RIGHT, 0, Ratio(11, 2), 3), [
            (0, 0, Ratio(11, 2)), (0, 1, Ratio(3, 2)), (1, 0, Ratio(9, 2)), (1, 1, HALF), (2, 0, Ratio(7, 2)), (3, 0, Ratio(5, 2)),
        ])
        told = late_until(TIGHT, RIGHT, 1, 2, 40)
        self.assertEqual(told, sorted([(event, beat, 2) for event in range(4) for beat in range(41) if event > 0 or beat > 0]))

    def test_spans_longer_than_the_beat(self):
        net, timetable = chain()
        # From 1 at 3 the span of 26 minutes arrives at 5 two beats and 9 minutes later.
        self.assertEqual(timetable, (0, 3, 8, 2, 6, 9))
        self.assertEqual(late_until(net, timetable, 0, 3, 40), [(0, 0, 3), (1, 0, 2), (5, 2, 1)])
        self.assertEqual(late_until(net, timetable, 0, 3, 1), [(0, 0, 3), (1, 0, 2)])
        self.assertEqual(late_until(net, timetable, 0, 7, 40), [(0, 0, 7), (1, 0, 6), (2, 0, 4), (3, 1, 4), (4, 1, 1), (5, 2, 5)])
        # Two spans, one of which comes a beat later and has less reserve.
        net = Net(10, 2, ((0, 1, 1, 5), (0, 1, 12, 15)))
        self.assertEqual(late_until(net, (0, 3), 0, 4, 3), [(0, 0, 4), (1, 0, 2), (1, 1, 3)])
        # A span of many beats.
        net = Net(3, 2, ((0, 1, 2879, 2880), (1, 0, 119, 120)))
        self.assertEqual(late_until(net, (0, 0), 0, 4, 40), [(0, 0, 4)])
        self.assertEqual(late_until(net, (0, 0), 1, 4, 40), [(0, 40, 3), (1, 0, 4)])
        self.assertEqual(late_until(net, (0, 0), 1, 4, 39), [(1, 0, 4)])

    def test_spans_of_length_0(self):
        # On one beat lateness goes against the order of the events and of the spans.
        net = Net(10, 4, ((1, 0, 0, 3), (2, 1, 0, 3), (3, 2, 0, 3), (0, 3, 0, 3), (0, 3, 20, 21)))
        self.assertEqual(late_until(net, (5, 5, 5, 5), 3, 2, 1), [(event, 0, 2) for event in range(4)])
        self.assertEqual(late_until(net, (5, 5, 5, 5), 3, 2, 2), sorted([(event, beat, 2) for event in range(4) for beat in (0, 2)]))

    def test_against_going_on_beat_by_beat(self):
        chance = random.Random(182)
        great = 0
        for _ in range(400):
            net, timetable, event, minutes = some_case(chance)
            beats = chance.choice([0, 1, 2, 5, 20, 40])
            told = late_until(net, timetable, event, minutes, beats)
            found = slow_late(net, timetable, event, minutes, beats)
            self.assertEqual([(one, beat, fraction(number)) for one, beat, number in told], sorted([key + (found[key],) for key in found]))
            self.assertTrue(all([is_plain(number) for one, beat, number in told]))
            # Fewer beats tell a part of it, and where lateness ends all beats tell the greatest of all.
            fewer = late_until(net, timetable, event, minutes, beats // 2)
            self.assertEqual(fewer, [row for row in told if row[1] <= beats // 2])
            name, row = late(net, timetable, event, minutes)[:2]
            if name == "ends":
                for one, beat, number in told:
                    self.assertLessEqual(fraction(number), fraction(row[one]))
                if beats == 40:
                    best = [max([fraction(number) for one, beat, number in told if one == other] + [0]) for other in range(net.events)]
                    self.assertEqual(best, [fraction(number) for number in row])
            great = max(great, len(told))
        self.assertGreater(great, 100)

    def test_small_nets_of_all_shapes(self):
        chance = random.Random(183)
        for _ in range(100):
            net = some_net(chance)
            rows = slow_timetables(net)
            if rows:
                timetable = chance.choice(rows)
                event = chance.randrange(net.events)
                told = late_until(net, timetable, event, 5, 7)
                found = slow_late(net, timetable, event, 5, 7)
                self.assertEqual([(one, beat, fraction(number)) for one, beat, number in told], sorted([key + (found[key],) for key in found]))

    def test_great_nets(self):
        # Forty beats over 24 events and 48 spans, all of which lateness goes along.
        moments = tuple(range(24))
        spans = [(event, (event + 1) % 24, 1, 20) for event in range(24)] + [(event, (event + 5) % 24, 5, 20) for event in range(24)]
        net = Net(24, 24, spans)
        minutes = Ratio(10 ** 40 - 1, 10 ** 20 - 1)
        start = time.time()
        told = late_until(net, moments, 7, minutes, 40)
        self.assertLess(time.time() - start, 2)
        self.assertEqual(len(told), 24 * 41 - 7)
        self.assertEqual(late(net, moments, 7, minutes)[0], "endless")

    def test_errors_in_order(self):
        for thing in things() + [(0, 3, 7, 9), list(RIGHT)]:
            self.assertEqual(error_of(late_until, line(), thing, None, None, None), ("BadTimetable",))
        for thing in things() + [4, 24]:
            self.assertIs(error_of(late_until, line(), RIGHT, thing, None, None)[1], thing)
            self.assertEqual(error_of(late_until, line(), RIGHT, thing, None, None)[0], "BadEvent")
        for thing in [None, True, False, 0, -1, Ratio(0, 1), Ratio(-1, 2), "1", (1,), [], {}]:
            error = error_of(late_until, line(), RIGHT, 0, thing, None)
            self.assertEqual(error[0], "BadMinutes")
            self.assertIs(error[1], thing)
        for thing in things() + [41, -1, Ratio(5, 1), HALF]:
            error = error_of(late_until, line(), RIGHT, 0, 1, thing)
            self.assertEqual(error[0], "BadBeats")
            self.assertIs(error[1], thing)
        self.assertIsNone(error_of(late_until, line(), RIGHT, 0, 1, 40))
        self.assertIsNone(error_of(late_until, line(), RIGHT, 0, 1, 0))


if __name__ == "__main__":
    unittest.main()
