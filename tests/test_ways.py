"""Ways, trees and bases: points 2.2 and 2.3, and the tree and the base of example e02."""

import unittest

from likespans.errors import BadEvent, BadRing, BadWay
from likespans.nets import Net
from likespans.ratios import Ratio
from likespans.ways import backward, base, by_base, tree, tree_way, way_ends
from tests.things import knot, line, things

ROUND = ((0, True), (1, True), (2, True), (3, True))

NO_WAYS = [
    [(0, True)], [], ([0, True],), ((0,),), ((0, True, 1),), ((),), ((4, True),), ((-1, True),), ((10 ** 40, True),),
    ((True, True),), ((False, True),), ((0, 1),), ((0, 0),), ((0, None),), (("0", True),), ((Ratio(0, 1), True),),
    ((0, Ratio(1, 1)),), ((0, True), (2, True)), ((0, True), (0, True)), ((0, False), (1, True)),
    ((0, True), (1, False)), ((0, True), (1, True), (3, True)), ((0, True), None), (0, True), ((0, True), 1),
]


class WaysTest(unittest.TestCase):

    def test_ends(self):
        for way, ends in [
            (((0, True),), (0, 1)), (((0, False),), (1, 0)), (((0, True), (1, True)), (0, 2)),
            (((1, False), (0, False)), (2, 0)), (ROUND, (0, 0)), (((0, True), (0, False)), (0, 0)),
            (((3, True), (0, True), (0, False), (3, False)), (3, 3)), (((3, False), (2, False)), (0, 2)),
        ]:
            with self.subTest(way=way):
                self.assertEqual(way_ends(line(), way), ends)

    def test_ends_of_ways_along_spans_side_by_side(self):
        self.assertEqual(way_ends(knot(), ((0, True), (5, True), (2, True))), (0, 2))
        self.assertEqual(way_ends(knot(), ((4, False), (4, True), (3, True))), (4, 3))

    def test_no_ways(self):
        for thing in NO_WAYS + [thing for thing in things() if thing not in ((), ((0, True),))]:
            with self.subTest(thing=thing):
                self.assertRaises(BadWay, way_ends, line(), thing)
                self.assertRaises(BadWay, backward, line(), thing)

    def test_the_empty_way(self):
        self.assertRaises(BadWay, way_ends, line(), ())
        self.assertEqual(backward(line(), ()), ())

    def test_backward(self):
        self.assertEqual(backward(line(), ((0, True),)), ((0, False),))
        self.assertEqual(backward(line(), ((0, True), (1, True))), ((1, False), (0, False)))
        self.assertEqual(backward(line(), ((3, False), (3, True), (0, True))), ((0, False), (3, False), (3, True)))
        self.assertEqual(backward(line(), backward(line(), ROUND)), ROUND)


class TreeTest(unittest.TestCase):

    def test_example(self):
        self.assertEqual((tree(line()), base(line())), ((0, 1, 2), [((3, True), (0, True), (1, True), (2, True))]))

    def test_trees(self):
        self.assertEqual(tree(knot()), (0, 1, 3))
        self.assertEqual(tree(Net(5, 4, ())), ())
        self.assertEqual(tree(Net(5, 2, ((1, 0, 1, 1), (0, 1, 1, 1)))), (0,))
        self.assertEqual(tree(Net(5, 4, ((2, 3, 1, 1), (3, 2, 1, 1), (0, 3, 1, 1), (2, 0, 1, 1), (1, 0, 1, 1)))), (0, 2, 4))

    def test_tree_ways(self):
        for one, other, way in [
            (0, 0, ()), (0, 1, ((0, True),)), (1, 0, ((0, False),)), (0, 3, ((0, True), (1, True), (2, True))),
            (3, 1, ((2, False), (1, False))),
        ]:
            self.assertEqual(tree_way(line(), one, other), way)

    def test_tree_ways_between_and_within_pieces(self):
        for one, other, way in [
            (0, 2, ((0, True), (1, False))), (2, 0, ((1, True), (0, False))), (4, 3, ((3, True),)),
            (3, 4, ((3, False),)), (5, 5, ()), (0, 3, None), (4, 1, None), (5, 0, None), (0, 5, None),
        ]:
            self.assertEqual(tree_way(knot(), one, other), way)

    def test_no_events(self):
        for thing in things():
            if type(thing) is int and 0 <= thing < 4:
                continue
            for one, other in [(thing, 0), (0, thing), (thing, 9)]:
                with self.assertRaises(BadEvent) as caught:
                    tree_way(line(), one, other)
                self.assertIs(caught.exception.thing, thing)
        for event in (-1, 4, 24, True):
            self.assertRaises(BadEvent, tree_way, line(), event, event)

    def test_bases(self):
        rings = [((2, True), (1, True), (0, False)), ((4, True), (3, True)), ((5, True), (0, True))]
        self.assertEqual(base(knot()), rings)
        self.assertEqual(base(Net(5, 3, ((0, 1, 1, 1), (1, 2, 1, 1)))), [])
        self.assertEqual(base(Net(5, 3, ())), [])

    def test_each_base_is_new(self):
        net = knot()
        base(net).clear()
        self.assertEqual(len(base(net)), 3)


class ByBaseTest(unittest.TestCase):

    def test_along_rings(self):
        for ring, told in [
            (ROUND, (1,)), (backward(line(), ROUND), (-1,)), (ROUND[2:] + ROUND[:2], (1,)), (ROUND * 3, (3,)),
            (((0, True), (0, False)), (0,)), (ROUND + backward(line(), ROUND), (0,)),
            (((3, True), (3, False)), (0,)), (((3, False), (3, True), (3, False), (2, False), (1, False), (0, False)), (-1,)),
        ]:
            with self.subTest(ring=ring):
                self.assertEqual(by_base(line(), ring), told)

    def test_along_several_rings(self):
        net = knot()
        self.assertEqual(by_base(net, ((0, True), (1, False), (2, False))), (-1, 0, 0))
        self.assertEqual(by_base(net, ((5, True), (2, True), (1, True))), (1, 0, 1))
        self.assertEqual(by_base(net, ((5, True), (5, False))), (0, 0, 0))
        self.assertEqual(by_base(net, ((3, False), (4, False))), (0, -1, 0))
        for index, ring in enumerate(base(net)):
            self.assertEqual(by_base(net, ring), tuple([int(at == index) for at in range(3)]))

    def test_sums_by_the_base(self):
        net = knot()
        row = (2, 3, 5, 7, 11, 13)

        def total(ring):
            return sum([row[index] if forth else -row[index] for index, forth in ring])

        for ring in [((5, True), (2, True), (1, True)), ((1, True), (0, False), (2, True)) * 2, ((4, False), (3, False))]:
            parts = [many * total(part) for many, part in zip(by_base(net, ring), base(net))]
            self.assertEqual(sum(parts), total(ring))

    def test_no_ring(self):
        for thing in NO_WAYS + things() + [(), ((0, True),), ROUND[:3], ROUND + ROUND[:1]]:
            with self.subTest(thing=thing):
                self.assertRaises(BadRing, by_base, line(), thing)


if __name__ == "__main__":
    unittest.main()
