"""Rounds and islands: points 4.1 to 4.4, and example e04."""

import unittest

from likespans.errors import TooMany
from likespans.islands import (
    all_whole, held, is_barring, island_of, islands, last, leader, places, rounds, rounds_by, timetables,
)
from likespans.nets import Net
from likespans.ratios import Ratio
from likespans.timetables import is_timetable, lengths
from likespans.ways import backward, base
from tests.things import error_of, is_plain, line, things

ROUND = ((3, True), (0, True), (1, True), (2, True))
HALF = Ratio(1, 2)


def two_rings():
    """A net of three events with two rings, and several islands."""
    return Net(6, 3, ((0, 1, 1, 4), (1, 2, 0, 4), (2, 0, 2, 6), (0, 2, 3, 7)))


def none():
    """A net without timetables: each ring of the base allows a row, but the two rows bar one another."""
    return Net(10, 2, ((0, 1, 0, 8), (0, 1, 2, 3), (0, 1, 15, 16)))


def flower(many):
    """A net with so many rings at one event, each of three islands of its own."""
    spans = []
    for ring in range(many):
        spans += [(0, 2 * ring + 1, 0, 7), (2 * ring + 1, 2 * ring + 2, 0, 7), (2 * ring + 2, 0, 0, 7)]
    return Net(9, 2 * many + 1, spans)


class RoundsTest(unittest.TestCase):

    def test_rounds(self):
        for ring, told in [
            (ROUND, 1), (backward(line(), ROUND), -1), (ROUND * 2, 2), (((0, True), (0, False)), 0),
            (ROUND[2:] + ROUND[:2], 1),
        ]:
            self.assertEqual(rounds(line(), (0, 3, 5, 8), ring), told)
            self.assertIs(type(rounds(line(), (0, 3, 5, 8), ring)), int)

    def test_rounds_of_fractions(self):
        timetable = (HALF, Ratio(7, 2), Ratio(16, 3), Ratio(25, 3))
        self.assertEqual(rounds(line(), timetable, ROUND), 1)
        self.assertIs(type(rounds(line(), timetable, ROUND)), int)
        self.assertEqual(island_of(line(), timetable), (1,))
        self.assertIs(type(island_of(line(), timetable)[0]), int)

    def test_rounds_above_one_and_below_0(self):
        net = Net(10, 2, ((0, 1, 22, 28), (1, 0, 0, 5), (0, 1, 42, 48)))
        self.assertEqual(island_of(net, (0, 5)), (3, 2))
        self.assertEqual(rounds(net, (0, 5), ((0, True), (2, False))), -2)

    def test_errors(self):
        self.assertEqual(error_of(rounds, line(), (0, 3, 7, 9), None), ("BadTimetable",))
        for thing in things() + [(), ROUND[:3], ((0, True),)]:
            self.assertEqual(error_of(rounds, line(), thing, ROUND), ("BadTimetable",))
            self.assertEqual(error_of(rounds, line(), (0, 3, 5, 8), thing), ("BadRing",))
            self.assertEqual(error_of(island_of, line(), thing), ("BadTimetable",))
            self.assertEqual(error_of(places, line(), thing), ("BadTimetable",))

    def test_rounds_by(self):
        net = two_rings()
        self.assertEqual(base(net), [((2, True), (0, True), (1, True)), ((3, True), (1, False), (0, False))])
        ring = ((3, True), (2, True))
        for row in [(1, 0), (2, 1), (-7, 10 ** 40)]:
            self.assertEqual(rounds_by(net, row, ring), sum(row))
            self.assertEqual(rounds_by(net, row, backward(net, ring)), -sum(row))
            self.assertEqual(rounds_by(net, row, ring * 2), 2 * sum(row))
            self.assertEqual([rounds_by(net, row, part) for part in base(net)], list(row))
        self.assertEqual(rounds_by(line(), (5,), ((1, True), (1, False))), 0)

    def test_rounds_by_tells_the_rounds_of_all_timetables(self):
        net = two_rings()
        for island in islands(net):
            for timetable in timetables(net, island):
                ring = ((0, False), (3, True), (1, False), (1, True), (2, True), (0, True), (0, False), (0, True))
                self.assertEqual(rounds_by(net, island, ring), rounds(net, timetable, ring))

    def test_rounds_by_errors(self):
        for thing in things() + [(1, 1), (), [1], (True,), (Ratio(1, 1),), (None,)]:
            if thing != (0,):
                self.assertEqual(error_of(rounds_by, line(), thing, None), ("BadIsland", -1))
            self.assertEqual(error_of(rounds_by, line(), (0,), thing), ("BadRing",))


class IslandsTest(unittest.TestCase):

    def test_example(self):
        shown = (islands(line()), held(line(), (2,))[0], leader(line(), (1,)))
        self.assertEqual(shown, ([(1,)], "ring", (0, 2, 3, 7)))

    def test_forests(self):
        self.assertEqual(islands(Net(5, 3, ())), [()])
        self.assertEqual(islands(Net(5, 4, ((0, 1, 1, 2), (3, 2, 9, 9)))), [()])

    def test_one_ring(self):
        self.assertEqual(islands(Net(10, 2, ((0, 1, 8, 16), (1, 0, 7, 15)))), [(2,), (3,)])
        self.assertEqual(islands(Net(10, 2, ((0, 1, 2, 4), (0, 1, 4, 12)))), [(0,), (1,)])
        self.assertEqual(islands(Net(10, 2, ((0, 1, 2, 4), (1, 0, 2, 4)))), [])

    def test_several_rings(self):
        self.assertEqual(islands(two_rings()), [(1, 0), (1, 1), (2, 0)])
        self.assertEqual(islands(Net(6, 3, two_rings().spans[:3])), [(1,), (2,)])

    def test_rings_that_bar_one_another(self):
        self.assertEqual(islands(none()), [])
        self.assertEqual(all_whole(none()), 0)

    def test_a_ring_without_rounds_beside_rings_with_many(self):
        # Six rings with 22 rows each would make 22 ** 6 of them, were the seventh one not to allow none.
        spans = [(event, event + 1, 0, 1438) for event in range(22)]
        spans += [(22, 0, low, low + 1438) for low in range(6)]
        net = Net(1440, 24, spans + [(0, 23, 1, 1), (0, 23, 2, 2)])
        self.assertEqual(len(base(net)), 7)
        self.assertEqual(islands(net), [])
        self.assertEqual(all_whole(net), 0)

    def test_many_rows(self):
        net = flower(7)
        told = islands(net)
        self.assertEqual((len(told), told[0], told[-1]), (3 ** 7, (0,) * 7, (2,) * 7))
        self.assertEqual(told, sorted(told))

    def test_each_list_is_new(self):
        net = line()
        islands(net).clear()
        timetables(net, (1,)).clear()
        self.assertEqual((len(islands(net)), len(timetables(net, (1,)))), (1, 19))


class HeldTest(unittest.TestCase):

    def check_ring(self, net, row):
        name, ring = held(net, row)
        self.assertEqual(name, "ring")
        self.assertIs(is_barring(net, row, ring), True)
        self.assertEqual(len({index for index, forth in ring}), len(ring))

    def test_islands_are_held_by_their_leaders(self):
        for net in (line(), two_rings(), Net(5, 2, ()), Net(5, 4, ((0, 1, 1, 2), (3, 2, 9, 9)))):
            for island in islands(net):
                self.assertEqual(held(net, island), ("timetable", leader(net, island)))

    def test_other_rows_are_barred(self):
        for many in (0, 2, -1, 10 ** 39, -10 ** 39):
            self.check_ring(line(), (many,))
        for one in range(-2, 5):
            for other in range(-3, 3):
                if (one, other) not in islands(two_rings()):
                    self.check_ring(two_rings(), (one, other))
                self.check_ring(none(), (one, other))

    def test_errors(self):
        for thing in things() + [(1, 1), (), [1], (True,), (Ratio(1, 1),), (None,)]:
            if thing == (0,):
                continue
            for call in (held, leader, last, timetables):
                self.assertEqual(error_of(call, line(), thing), ("BadIsland", -1))
        for row in [(0,), (2,), (-1,), (10 ** 39,)]:
            for call in (leader, last, timetables):
                self.assertEqual(error_of(call, line(), row), ("BadIsland", -2))
        self.assertEqual(error_of(leader, none(), (0, 1)), ("BadIsland", -2))


class BarringTest(unittest.TestCase):

    def test_things_of_any_kind(self):
        for thing in things() + [list(ROUND), ROUND[:3], ((0, True),), (), ROUND + ((9, True),)]:
            with self.subTest(thing=thing):
                self.assertIs(is_barring(line(), (2,), thing), False)

    def test_rings(self):
        turned = backward(line(), ROUND)
        for many, bars in [(-1, True), (0, True), (1, False), (2, True), (10 ** 39, True)]:
            for ring in (ROUND, turned, ROUND[1:] + ROUND[:1], ROUND * 2, turned * 3):
                self.assertIs(is_barring(line(), (many,), ring), bars)
            for ring in (((0, True), (0, False)), ROUND + turned, ((0, True), (1, True), (1, False), (0, False))):
                self.assertIs(is_barring(line(), (many,), ring), False)

    def test_at_the_bounds(self):
        net = Net(10, 2, ((0, 1, 4, 6), (1, 0, 6, 14)))
        self.assertEqual([is_barring(net, (many,), ((0, True), (1, True))) for many in (0, 1, 2, 3)],
                         [True, False, False, True])
        net = Net(10, 2, ((0, 1, 5, 6), (1, 0, 6, 13)))
        self.assertEqual([is_barring(net, (many,), ((0, True), (1, True))) for many in (0, 1, 2, 3)],
                         [True, True, True, True])

    def test_a_span_has_one_length_however_often_it_is_gone_along(self):
        net = Net(10, 2, ((0, 1, 0, 8), (0, 1, 0, 7), (0, 1, 7, 9)))
        self.assertEqual(base(net), [((1, True), (0, False)), ((2, True), (0, False))])
        # Span 0 is gone along forth and back, which cancels out: 7 to 9 less 0 to 7 is left.
        ring = ((0, True), (0, False), (2, True), (1, False))
        told = [is_barring(net, row, ring) for row in [(0, 0), (0, 1), (1, 1), (1, 0)]]
        self.assertEqual(told, [False, True, False, True])
        # Along span 2 twice, back along both other ones: 14 to 18 less 0 to 15.
        ring = ((2, True), (1, False), (2, True), (0, False))
        told = [is_barring(net, row, ring) for row in [(0, 0), (-1, 0), (0, 1), (1, 1), (-1, 1), (1, 0)]]
        self.assertEqual(told, [False, False, True, False, True, True])

    def test_rings_of_islands_never_bar(self):
        net = two_rings()
        for island in islands(net):
            for ring in base(net) + [((3, True), (2, True)), ((2, True), (3, True)) * 4]:
                self.assertIs(is_barring(net, island, ring), False)


class PlacesTest(unittest.TestCase):

    def test_leader_and_last(self):
        self.assertEqual((leader(line(), (1,)), last(line(), (1,))), ((0, 2, 3, 7), (0, 4, 7, 9)))
        self.assertEqual(leader(Net(5, 3, ((2, 1, 3, 6),)), ()), (0, 0, 4))
        self.assertEqual(last(Net(5, 3, ((2, 1, 3, 6),)), ()), (0, 0, 2))
        net = Net(5, 3, ((1, 2, 13, 14), (1, 2, 11, 13)))
        self.assertEqual((leader(net, (0,)), last(net, (0,))), ((0, 0, 3), (0, 0, 3)))

    def test_least_and_greatest_at_each_event(self):
        for net in (line(), two_rings(), Net(7, 4, ((3, 0, 2, 5), (1, 3, 8, 10), (0, 1, 3, 6), (2, 0, 0, 2)))):
            for island in islands(net):
                rows = [places(net, timetable) for timetable in timetables(net, island)]
                self.assertEqual(places(net, leader(net, island)), tuple([min(column) for column in zip(*rows)]))
                self.assertEqual(places(net, last(net, island)), tuple([max(column) for column in zip(*rows)]))

    def test_places(self):
        self.assertEqual(places(line(), (0, 3, 5, 8)), (0, 3, 5, 8))
        self.assertEqual(places(line(), (7, 0, 2, 5)), (0, 3, 5, 8))
        net = Net(5, 4, ((2, 1, 13, 14), (3, 1, 0, 1)))
        told = places(net, (2, 1, 3, HALF))
        self.assertEqual(told, (0, 0, -13, Ratio(-1, 2)))
        self.assertTrue(all([is_plain(place) for place in told]))
        self.assertEqual(places(net, (2, Ratio(3, 2), Ratio(5, 2), Ratio(3, 2))), (0, 0, -14, 0))
        self.assertIs(type(places(net, (2, Ratio(3, 2), Ratio(5, 2), Ratio(3, 2)))[2]), int)


class TimetablesTest(unittest.TestCase):

    def test_of_an_island(self):
        told = timetables(line(), (1,))
        self.assertEqual((len(told), told[0], told[-1]), (19, (0, 2, 3, 7), (0, 4, 7, 9)))
        self.assertEqual(told, sorted(told))
        found = [(0, i, j, k) for i in range(10) for j in range(10) for k in range(10)]
        self.assertEqual(told, [thing for thing in found if is_timetable(line(), thing)])

    def test_ascending_by_moments(self):
        self.assertEqual(timetables(Net(5, 2, ((0, 1, 3, 6),)), ()), [(0, 0), (0, 1), (0, 3), (0, 4)])
        self.assertEqual(timetables(Net(5, 3, ((2, 1, 3, 4),)), ()), [(0, 0, 1), (0, 0, 2)])
        self.assertEqual(timetables(Net(5, 3, ()), ()), [(0, 0, 0)])

    def test_of_several_islands(self):
        net = two_rings()
        found = [(0, i, j) for i in range(6) for j in range(6) if is_timetable(net, (0, i, j))]
        told = []
        for island in islands(net):
            self.assertTrue(all([island_of(net, timetable) == island for timetable in timetables(net, island)]))
            told += timetables(net, island)
        self.assertEqual(sorted(told), found)
        self.assertEqual(all_whole(net), len(found))

    def test_3000_and_just_above(self):
        spans = [(0, 1, 0, 9), (2, 3, 5, 14), (3, 4, 0, 29)]
        self.assertEqual((len(timetables(Net(60, 5, spans), ())), all_whole(Net(60, 5, spans))), (3000, 3000))
        spans[2] = (3, 4, 0, 30)
        self.assertEqual(error_of(timetables, Net(60, 5, spans), ()), ("TooMany", 3000))
        self.assertEqual(error_of(all_whole, Net(60, 5, spans)), ("TooMany", 3000))

    def cut_off(self, wide, high, least):
        """A ring of three spans, the first two as wide as told, their sum from some least one on."""
        return Net(1440, 3, [(0, 1, 0, wide), (1, 2, 0, high), (2, 0, 1440 - wide - high, 1440 - least)])

    def test_3000_and_3001_on_a_ring(self):
        # 45 * 67 pairs of lengths less the 15 with a sum below 5; 38 * 79 pairs less the one with the sum 0.
        net = self.cut_off(44, 66, 5)
        self.assertEqual((islands(net), len(timetables(net, (1,))), all_whole(net)), ([(1,)], 3000, 3000))
        net = self.cut_off(37, 78, 1)
        self.assertEqual(islands(net), [(1,)])
        self.assertEqual(error_of(timetables, net, (1,)), ("TooMany", 3000))
        self.assertEqual(error_of(all_whole, net), ("TooMany", 3000))

    def test_above_3000_over_several_islands(self):
        net = Net(1440, 3, [(0, 1, 0, 1438), (0, 1, 1000, 2438), (0, 2, 5, 7)])
        self.assertEqual(islands(net), [(0,), (1,)])
        self.assertEqual([len(timetables(net, island)) for island in islands(net)], [3 * 439, 3 * 999])
        self.assertEqual(all_whole(net), 4314)

    def test_one_island_of_several_above_3000(self):
        net = Net(1440, 3, [(0, 1, 0, 1438), (0, 1, 1000, 2438), (0, 2, 5, 8)])
        self.assertEqual(len(timetables(net, (0,))), 4 * 439)
        self.assertEqual(error_of(timetables, net, (1,)), ("TooMany", 3000))
        self.assertEqual(error_of(all_whole, net), ("TooMany", 3000))

    def test_more_than_could_ever_be_listed(self):
        net = Net(1440, 24, [(event, event + 1, 0, 1438) for event in range(23)])
        self.assertEqual(error_of(timetables, net, ()), ("TooMany", 3000))
        self.assertEqual(error_of(all_whole, net), ("TooMany", 3000))
        net = Net(1440, 24, [(event, (event + 1) % 24, 0, 1438) for event in range(24)])
        self.assertEqual(error_of(timetables, net, (12,)), ("TooMany", 3000))
        self.assertEqual(error_of(all_whole, net), ("TooMany", 3000))
        self.assertEqual(timetables(net, (0,)), [(0,) * 24])
        self.assertEqual(error_of(all_whole, flower(7)), ("TooMany", 3000))

    def test_all_whole(self):
        self.assertEqual(all_whole(line()), 19)
        self.assertEqual(all_whole(Net(5, 24, ())), 1)
        self.assertEqual(all_whole(Net(10, 2, ((0, 1, 2, 4), (1, 0, 2, 4)))), 0)
        net = flower(1)
        self.assertEqual([len(timetables(net, island)) for island in islands(net)], [1, 46, 10])
        self.assertEqual((all_whole(net), all_whole(flower(2))), (57, 57 ** 2))

    def test_nothing_is_changed(self):
        net = two_rings()
        for island in islands(net):
            for timetable in timetables(net, island):
                self.assertEqual(len(lengths(net, timetable)), 4)
        self.assertEqual(net, two_rings())
        self.assertRaises(TooMany, all_whole, flower(3))


if __name__ == "__main__":
    unittest.main()
