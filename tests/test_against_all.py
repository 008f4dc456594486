"""Small nets of all shapes: what is told of them beside what going over all whole timetables tells."""

import itertools
import random
import unittest

from likespans.islands import (
    all_whole, held, is_barring, island_of, islands, last, leader, places, rounds, rounds_by, timetables,
)
from likespans.moving import is_way_to, led, way_to
from likespans.nets import pieces
from likespans.timetables import from_lengths, is_timetable, lengths, shift_between, shifted
from likespans.ways import backward, base, by_base, tree, tree_way, way_ends
from tests.slow import slow_lengths, slow_sum, slow_timetables, some_net


def slow_moves(net, found, start):
    """For each whole timetable that moves lead to from a start, how few do."""
    events = range(net.events)
    blocks = [block for many in range(1, net.events + 1) for block in itertools.combinations(events, many)]
    free = dict.fromkeys(found, True)
    many = {start: 0}
    edge = [start]
    while edge:
        further = []
        for one in edge:
            for block, up in itertools.product(blocks, (1, -1)):
                other = tuple([(one[event] + up * (event in block)) % net.beat for event in events])
                if other in free and other not in many:
                    many[other] = many[one] + 1
                    further.append(other)
        edge = further
    return many


class AgainstAllTest(unittest.TestCase):

    def setUp(self):
        self.chance = random.Random(20)

    def nets(self, many):
        return [some_net(self.chance) for _ in range(many)]

    def test_trees_and_bases(self):
        for net in self.nets(100):
            heads = [piece[0] for piece in pieces(net)]
            self.assertEqual(len(tree(net)), net.events - len(heads))
            self.assertEqual(len(base(net)), len(net.spans) - len(tree(net)))
            for at, ring in enumerate(base(net)):
                self.assertEqual(way_ends(net, ring)[0], way_ends(net, ring)[1])
                self.assertEqual(by_base(net, ring), tuple([int(at == other) for other in range(len(base(net)))]))
                self.assertEqual(by_base(net, backward(net, ring))[at], -1)
            for piece in pieces(net):
                for one, other in itertools.permutations(piece, 2):
                    way = tree_way(net, one, other)
                    self.assertEqual(way_ends(net, way), (one, other))
                    self.assertEqual(len({index for index, forth in way} & set(tree(net))), len(way))

    def test_timetables_and_lengths(self):
        for net in self.nets(60):
            for moments in itertools.product(range(net.beat), repeat=net.events):
                row = slow_lengths(net, moments)
                self.assertIs(is_timetable(net, moments), row is not None)
                if row is not None and moments[0] == 1:
                    self.assertEqual(lengths(net, moments), row)
                    name, again = from_lengths(net, row)
                    self.assertEqual((name, lengths(net, again)), ("timetable", row))
                    shifts = shift_between(net, again, moments)
                    self.assertEqual(shifts, tuple([moments[piece[0]] for piece in pieces(net)]))
                    self.assertEqual(shifted(net, again, 1)[0], 1)

    def check_islands(self, net):
        groups = {}
        for moments in slow_timetables(net):
            if all([moments[piece[0]] == 0 for piece in pieces(net)]):
                row = slow_lengths(net, moments)
                island = tuple([slow_sum(row, ring) // net.beat for ring in base(net)])
                self.assertEqual(island_of(net, moments), island)
                groups.setdefault(island, []).append(moments)
        self.assertEqual(islands(net), sorted(groups))
        self.assertEqual(all_whole(net), sum([len(rows) for rows in groups.values()]))
        for island, rows in groups.items():
            self.assertEqual(timetables(net, island), rows)
            columns = list(zip(*[places(net, moments) for moments in rows]))
            self.assertEqual(places(net, leader(net, island)), tuple([min(column) for column in columns]))
            self.assertEqual(places(net, last(net, island)), tuple([max(column) for column in columns]))
            for ring in base(net):
                self.assertEqual(rounds_by(net, island, ring), rounds(net, rows[0], ring))
        return groups

    def test_islands(self):
        for net in self.nets(150):
            groups = self.check_islands(net)
            for _ in range(10):
                row = tuple([self.chance.randint(-2, 3) for _ in base(net)])
                told = held(net, row)
                if row in groups:
                    self.assertEqual(told, ("timetable", leader(net, row)))
                else:
                    self.assertEqual(told[0], "ring")
                    self.assertTrue(is_barring(net, row, told[1]))
                    self.assertEqual(len({index for index, forth in told[1]}), len(told[1]))

    def test_ways_to(self):
        for net in self.nets(150):
            found = slow_timetables(net)
            if not 1 <= len(found) <= 300:
                continue
            start = self.chance.choice(found)
            many = slow_moves(net, found, start)
            for other in self.chance.sample(found, min(len(found), 30)):
                told = way_to(net, start, other)
                self.assertTrue(is_way_to(net, start, other, told))
                self.assertEqual(told[0], "moves" if other in many else "ring")
                if other in many:
                    self.assertEqual((len(told[1]), led(net, start, told[1])), (many[other], other))
                else:
                    self.assertEqual(told[2:], (rounds(net, start, told[1]), rounds(net, other, told[1])))


if __name__ == "__main__":
    unittest.main()
