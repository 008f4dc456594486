"""Spacing and mirror moments: points 9.1 and 9.2."""

import random
import unittest
from math import gcd

from likespans.evening import evened
from likespans.islands import rounds
from likespans.likes import likenesses
from likespans.nets import Net, pieces
from likespans.ratios import Ratio
from likespans.spacing import mirror_moments, spacing
from likespans.timetables import from_lengths, is_timetable, lengths
from likespans.ways import tree_way, way_ends
from tests.slow import alike_net, slow_ring_led, slow_timetables
from tests.test_likes import MIRROR, OTHER, ROUND, SAME, not_likenesses, turned, wheel
from tests.things import error_of, fraction, is_plain, line, things

HALF = Ratio(1, 2)
RIGHT = (0, 3, 5, 8)
UNEVEN = (0, 2, 4, 8)


def even_ones(seed, many, forth):
    """Nets made by chance with a likeness and a timetable that is even for it, and an event."""
    chance = random.Random(seed)
    found = []
    for _ in range(many):
        net = alike_net(chance)[0]
        chosen = [likeness for likeness in likenesses(net) if likeness[1] is forth]
        rows = slow_timetables(net)
        if chosen and rows:
            likeness = chance.choice(chosen)
            told = evened(net, [likeness], chance.choice(rows))
            if told[0] == "even":
                found.append((net, likeness, told[1], chance.randrange(net.events)))
    return found


def piece_of(net, event):
    """The events that hang together with an event."""
    return [piece for piece in pieces(net) if event in piece][0]


class SpacingTest(unittest.TestCase):

    def test_examples(self):
        ring = ((0, True), (1, True), (2, True), (3, True))
        self.assertEqual(spacing(line(), ROUND, RIGHT, 0), (2, 1, ring))
        self.assertEqual(spacing(line(), ROUND, RIGHT, 1), (2, 1, ((1, True), (2, True), (3, True), (0, True))))
        # From 2 along the tree to 0 the way goes back, so from there it does, too.
        back = ((1, False), (0, False), (3, False), (2, False))
        self.assertEqual(spacing(line(), ROUND, RIGHT, 2), (2, 1, back))
        for event in range(4):
            self.assertEqual(spacing(line(), SAME, RIGHT, event), (1, 0, ()))

    def test_times_that_divide_and_that_do_not(self):
        for many, beat, number, times in [
            (6, 12, 2, 1), (6, 6, 2, 2), (6, 4, 2, 3), (6, 3, 2, 4), (6, 12, 12, 0), (6, 12, 10, 5), (4, 8, 2, 1),
            (4, 4, 3, 3), (5, 10, 4, 2), (5, 10, 6, 3), (3, 3, 0, 0), (24, 24, 1, 1),
        ]:
            net = Net(beat, many, [(event, (event + 1) % many, number, number) for event in range(many)])
            turn = wheel(many)[1]
            timetable = from_lengths(net, [number] * many)[1]
            n, told, ring = spacing(net, turn, timetable, 0)
            self.assertEqual((n, told), (many, times))
            self.assertEqual(rounds(net, timetable, ring) % n, times)
            moments = sorted({timetable[event] for event in range(many)})
            evenly = len(moments) == many and moments == [moments[0] + at * beat // many for at in range(many)]
            self.assertIs(gcd(times, n) == 1, evenly)

    def test_broken_moments(self):
        net, turn = wheel(4)
        timetable = (HALF, 3, Ratio(11, 2), 8)
        self.assertEqual(lengths(net, timetable), (Ratio(5, 2),) * 4)
        n, times, ring = spacing(net, turn, timetable, 0)
        self.assertEqual((n, times), (4, 1))
        self.assertEqual(ring, tuple([(index, True) for index in range(4)]))

    def test_by_the_ways_led(self):
        seen = {}
        for net, likeness, timetable, event in even_ones(91, 500, True):
            aim = likeness[0][event]
            if aim not in piece_of(net, event):
                self.assertEqual(error_of(spacing, net, likeness, timetable, event), ("OtherPiece",))
                continue
            n, times, ring = spacing(net, likeness, timetable, event)
            seen[n] = True
            at = event
            way = ()
            part = tree_way(net, event, aim)
            for many in range(n):
                self.assertTrue(many == 0 or at != event)
                way = way + part
                part = slow_ring_led(net, likeness, part)
                at = likeness[0][at]
                # So many times the beat divided by n later.
                later = fraction(timetable[at]) - fraction(timetable[event])
                self.assertEqual((later * n - (many + 1) * times * net.beat) % (net.beat * n), 0)
            self.assertEqual(at, event)
            self.assertEqual(ring, () if n == 1 else way)
            self.assertEqual(times, 0 if n == 1 else rounds(net, timetable, ring) % n)
            if n > 1:
                self.assertEqual(way_ends(net, ring), (event, event))
        self.assertEqual(set(seen), {1, 2, 3, 4})

    def test_a_likeness_of_a_great_order(self):
        # Alone it makes a group of 840, which matters to nothing here.
        many = Net(5, 24, ())
        likeness = (turned((3, 5, 7, 8)), True)
        self.assertEqual(error_of(spacing, many, likeness, (0,) * 24, 0), ("OtherPiece",))
        self.assertEqual(spacing(many, likeness, (0,) * 24, 23), (1, 0, ()))
        spans = []
        for event in range(23):
            spans.append((event, likeness[0][event], 0, 3))
        net = Net(5, 24, spans)
        timetable = (0,) * 24
        self.assertEqual(spacing(net, likeness, timetable, 0)[:2], (3, 0))
        self.assertEqual(spacing(net, likeness, timetable, 22)[:2], (8, 0))

    def test_errors_in_order(self):
        for thing in [thing for thing, told in not_likenesses()] + things() + [MIRROR, OTHER]:
            self.assertEqual(error_of(spacing, line(), thing, None, None), ("BadLikeness",))
        for thing in things() + [(0, 3, 7, 9), list(RIGHT)]:
            self.assertEqual(error_of(spacing, line(), ROUND, thing, None), ("BadTimetable",))
        self.assertEqual(error_of(spacing, line(), ROUND, UNEVEN, None), ("NotEven",))
        self.assertIsNone(error_of(spacing, line(), SAME, UNEVEN, 0))
        for thing in things() + [4, 24]:
            error = error_of(spacing, line(), ROUND, RIGHT, thing)
            self.assertEqual(error[0], "BadEvent")
            self.assertIs(error[1], thing)
        net = Net(10, 4, ((0, 1, 2, 4), (2, 3, 2, 4)))
        self.assertEqual(error_of(spacing, net, ROUND, (0, 3, 5, 8), 0), ("OtherPiece",))
        self.assertEqual(error_of(spacing, net, ROUND, (0, 3, 5, 7), 0), ("NotEven",))
        self.assertEqual(error_of(spacing, net, ROUND, (0, 3, 5, 8), 4), ("BadEvent", 4))


class MirrorTest(unittest.TestCase):

    def test_examples(self):
        self.assertEqual(mirror_moments(line(), MIRROR, RIGHT, 0), (Ratio(3, 2), Ratio(13, 2)))
        self.assertEqual(mirror_moments(line(), MIRROR, (0, 4, 5, 9), 2), (2, 7))
        self.assertEqual(mirror_moments(line(), MIRROR, (9, 3, 4, 8), 0), (1, 6))
        self.assertEqual(mirror_moments(line(), MIRROR, (9, 3, 4, 8), 3), (1, 6))
        self.assertEqual(mirror_moments(line(), OTHER, (HALF, HALF + 2, HALF + 5, HALF + 7), 1), (4, 9))
        self.assertEqual(mirror_moments(line(), MIRROR, (Ratio(1, 3), Ratio(10, 3), Ratio(16, 3), Ratio(25, 3)), 1), (Ratio(11, 6), Ratio(41, 6)))

    def test_odd_and_even_beats(self):
        for beat, moments, told in [
            (7, (0, 0), (0, Ratio(7, 2))), (7, (1, 2), (Ratio(3, 2), 5)), (7, (5, 6), (2, Ratio(11, 2))),
            (8, (5, 6), (Ratio(3, 2), Ratio(11, 2))), (8, (0, 0), (0, 4)), (8, (3, 5), (0, 4)), (7, (3, 4), (0, Ratio(7, 2))),
            (7, (3, 5), (HALF, 4)),
        ]:
            net = Net(beat, 2, ((0, 1, 0, 5),))
            found = mirror_moments(net, ((1, 0), False), moments, 0)
            self.assertEqual(found, told)
            self.assertEqual(mirror_moments(net, ((1, 0), False), moments, 1), told)
            self.assertTrue(all([is_plain(moment) for moment in found]))
        # A likeness that leaves each event where it is.
        net = Net(7, 2, ((0, 1, 0, 5), (1, 0, 0, 5)))
        same = ((0, 1), False)
        self.assertEqual(mirror_moments(net, same, (3, 3), 0), (3, Ratio(13, 2)))
        self.assertEqual(mirror_moments(net, same, (5, Ratio(3, 2)), 0), (Ratio(3, 2), 5))

    def test_by_each_event_of_the_piece(self):
        seen = 0
        for net, likeness, timetable, event in even_ones(92, 500, False):
            if likeness[0][event] not in piece_of(net, event):
                self.assertEqual(error_of(mirror_moments, net, likeness, timetable, event), ("OtherPiece",))
                continue
            seen += 1
            found = mirror_moments(net, likeness, timetable, event)
            self.assertIsInstance(found, tuple)
            first, second = [fraction(moment) for moment in found]
            self.assertTrue(all([is_plain(moment) for moment in found]))
            self.assertTrue(0 <= first < second < net.beat)
            self.assertEqual((second - first) * 2, net.beat)
            for one in piece_of(net, event):
                other = likeness[0][one]
                for moment in (first, second):
                    ahead = moment - fraction(timetable[one])
                    behind = fraction(timetable[other]) - moment
                    self.assertEqual((ahead - behind) % net.beat, 0)
                self.assertEqual(mirror_moments(net, likeness, timetable, one), found)
        self.assertGreater(seen, 50)

    def test_errors_in_order(self):
        for thing in [thing for thing, told in not_likenesses()] + things() + [ROUND, SAME]:
            self.assertEqual(error_of(mirror_moments, line(), thing, None, None), ("BadLikeness",))
        for thing in things() + [(0, 3, 7, 9), list(RIGHT)]:
            self.assertEqual(error_of(mirror_moments, line(), MIRROR, thing, None), ("BadTimetable",))
        self.assertTrue(is_timetable(line(), UNEVEN))
        self.assertEqual(error_of(mirror_moments, line(), OTHER, UNEVEN, None), ("NotEven",))
        self.assertIsNone(error_of(mirror_moments, line(), MIRROR, UNEVEN, 0))
        for thing in things() + [4, 24]:
            error = error_of(mirror_moments, line(), MIRROR, RIGHT, thing)
            self.assertEqual(error[0], "BadEvent")
            self.assertIs(error[1], thing)
        net = Net(10, 4, ((0, 1, 2, 4), (2, 3, 2, 4)))
        self.assertEqual(error_of(mirror_moments, net, OTHER, (0, 3, 5, 8), 0), ("OtherPiece",))
        self.assertEqual(error_of(mirror_moments, net, OTHER, (0, 3, 5, 7), 0), ("NotEven",))
        self.assertEqual(error_of(mirror_moments, net, OTHER, (0, 3, 5, 8), -1), ("BadEvent", -1))
        self.assertEqual(mirror_moments(net, MIRROR, (0, 3, 5, 7), 2), (1, 6))


if __name__ == "__main__":
    unittest.main()
