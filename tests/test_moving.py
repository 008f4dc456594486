"""Moves, and ways from timetable to timetable: points 5.1 and 5.2."""

import unittest

from likespans.islands import last, leader, timetables
from likespans.moving import is_way_to, led, moved, way_to
from likespans.nets import Net
from likespans.ratios import Ratio
from likespans.timetables import is_timetable
from tests.things import error_of, is_plain, line, things

HALF = Ratio(1, 2)
RIGHT = (0, 3, 5, 8)
ROUND = ((3, True), (0, True), (1, True), (2, True))
NO_MOVES = [
    ((), 1), ((0,), 0), ((0,), 2), ((0,), -2), ((0,), True), ((0,), Ratio(1, 1)), ((0,), "1"), ((0,), None),
    ([0], 1), [(0,), 1], ((1, 0), 1), ((0, 0), 1), ((0, 4), 1), ((-1, 0), 1), ((True,), 1), ((False, 1), 1),
    ((0, "1"), 1), (0, 1), ((0,),), ((0,), 1, 1), ((0, Ratio(1, 1)), 1), ((None,), 1), (range(1), 1), {},
]


def pair():
    """A net of one ring with two islands."""
    return Net(10, 2, ((0, 1, 8, 16), (1, 0, 7, 15)))


class MovedTest(unittest.TestCase):

    def test_up_and_down(self):
        for move, told in [
            (((0,), 1), (1, 3, 5, 8)), (((0,), -1), (9, 3, 5, 8)), (((1,), 1), (0, 4, 5, 8)),
            (((3,), -1), (0, 3, 5, 7)), (((0, 1), 1), (1, 4, 5, 8)), (((1, 2), -1), (0, 2, 4, 8)),
            (((0, 1, 2, 3), 1), (1, 4, 6, 9)), (((0, 1, 2, 3), -1), (9, 2, 4, 7)), (((0, 2, 3), -1), (9, 3, 4, 7)),
        ]:
            with self.subTest(move=move):
                self.assertTrue(is_timetable(line(), told))
                self.assertEqual(moved(line(), RIGHT, move), told)

    def test_over_the_beat(self):
        self.assertEqual(moved(line(), (9, 2, 4, 7), ((0, 1, 2, 3), 1)), RIGHT)
        self.assertEqual(moved(Net(5, 1, ()), (4,), ((0,), 1)), (0,))

    def test_fractions(self):
        moments = (HALF, Ratio(7, 2), Ratio(11, 2), Ratio(9, 1))
        for move, told in [
            (((0,), 1), (Ratio(3, 2), Ratio(7, 2), Ratio(11, 2), 9)),
            (((0, 3), -1), (Ratio(19, 2), Ratio(7, 2), Ratio(11, 2), 8)),
        ]:
            found = moved(line(), moments, move)
            self.assertEqual(found, told)
            self.assertTrue(all([is_plain(moment) for moment in found]))
        self.assertEqual(error_of(moved, line(), moments, ((0,), -1)), ("Broken", 3))

    def test_the_first_span_that_is_broken(self):
        for moments, move, index in [
            ((0, 4, 5, 8), ((1,), 1), 0), ((0, 2, 3, 7), ((2,), -1), 1), ((0, 2, 5, 8), ((2,), 1), 1),
            ((0, 2, 5, 9), ((0,), 1), 0), ((0, 4, 6, 9), ((0,), -1), 0), ((0, 3, 6, 9), ((3,), 1), 3),
            ((0, 3, 4, 8), ((3,), 1), 2), ((0, 2, 3, 7), ((0, 1), 1), 1), ((0, 3, 4, 8), ((1, 3), 1), 1),
        ]:
            with self.subTest(moments=moments, move=move):
                self.assertEqual(error_of(moved, line(), moments, move), ("Broken", index))

    def test_no_moves(self):
        for thing in NO_MOVES + things():
            with self.subTest(thing=thing):
                self.assertEqual(error_of(moved, line(), RIGHT, thing), ("BadMove",))

    def test_which_error_comes_first(self):
        for thing in things() + [(0, 3, 7, 9)]:
            self.assertEqual(error_of(moved, line(), thing, None), ("BadTimetable",))
            self.assertEqual(error_of(led, line(), thing, None), ("BadTimetable",))


class LedTest(unittest.TestCase):

    def test_rows_of_moves(self):
        moves = [((0,), 1), ((0,), -1), ((1, 2), -1), ((3,), -1)]
        for many, told in enumerate([RIGHT, (1, 3, 5, 8), RIGHT, (0, 2, 4, 8), (0, 2, 4, 7)]):
            self.assertEqual(led(line(), RIGHT, moves[:many]), told)
            self.assertEqual(led(line(), RIGHT, tuple(moves[:many])), told)
        self.assertEqual(moves, [((0,), 1), ((0,), -1), ((1, 2), -1), ((3,), -1)])

    def test_no_moves_at_all(self):
        told = led(line(), (Ratio(0, 1), Ratio(3, 1), 5, Ratio(17, 2)), [])
        self.assertEqual(told, (0, 3, 5, Ratio(17, 2)))
        self.assertTrue(all([is_plain(moment) for moment in told]))

    def test_moves_each_from_where_the_one_ahead_led(self):
        up = ((0, 1, 2, 3), 1)
        self.assertEqual(led(line(), RIGHT, [up] * 10), RIGHT)
        self.assertEqual(led(line(), RIGHT, [up] * 23), (3, 6, 8, 1))

    def test_bad_moves(self):
        right = ((1,), 1)
        back = ((1,), -1)
        for thing in NO_MOVES + things():
            for index in range(3):
                row = [right, back, right][:index] + [thing]
                self.assertEqual(error_of(led, line(), RIGHT, row), ("BadMoves", index))
                self.assertEqual(error_of(led, line(), RIGHT, tuple(row) + (None,)), ("BadMoves", index))

    def test_broken_on_the_way(self):
        up = ((1,), 1)
        self.assertEqual(error_of(led, line(), RIGHT, [up, up]), ("BadMoves", 1))
        self.assertEqual(error_of(led, line(), (0, 4, 5, 8), [up, None]), ("BadMoves", 0))
        self.assertEqual(error_of(led, line(), RIGHT, [up, None, up]), ("BadMoves", 1))
        down = ((1,), -1)
        self.assertEqual(error_of(led, line(), RIGHT, [down, down]), ("BadMoves", 1))
        self.assertEqual(led(line(), RIGHT, [down]), (0, 2, 5, 8))
        half = (0, Ratio(5, 2), 5, 8)
        self.assertEqual(error_of(led, line(), half, [down]), ("BadMoves", 0))
        self.assertEqual(error_of(led, line(), half, [up, up]), ("BadMoves", 1))
        self.assertEqual(led(line(), half, [up, down]), half)
        # It would be a timetable again behind both, but is none between.
        self.assertEqual(error_of(led, line(), (0, 4, 7, 9), [((3,), 1), ((3,), -1)]), ("BadMoves", 0))

    def test_no_rows(self):
        for thing in things():
            if not isinstance(thing, (list, tuple)):
                self.assertEqual(error_of(led, line(), RIGHT, thing), ("BadMoves", -1))
        self.assertEqual(error_of(led, line(), RIGHT, {((0,), 1): 1}), ("BadMoves", -1))


class WayToTest(unittest.TestCase):

    def check(self, net, one, other, many):
        told = way_to(net, one, other)
        self.assertEqual((told[0], len(told)), ("moves", 2))
        self.assertIs(type(told[1]), list)
        self.assertEqual(led(net, one, told[1]), other)
        self.assertEqual(len(told[1]), many)
        self.assertIs(is_way_to(net, one, other, told), True)

    def test_within_an_island(self):
        for other, many in [
            (RIGHT, 0), ((1, 4, 6, 9), 1), ((9, 2, 4, 7), 1), ((5, 8, 0, 3), 5), ((6, 9, 1, 4), 4), ((0, 4, 5, 8), 1),
            ((0, 4, 5, 7), 2), ((1, 3, 5, 8), 1), ((1, 3, 4, 8), 2), ((0, 2, 3, 7), 2), ((0, 4, 7, 9), 2),
        ]:
            self.check(line(), RIGHT, other, many)
        self.assertEqual(way_to(line(), RIGHT, RIGHT), ("moves", []))

    def test_between_the_ends_of_an_island(self):
        net = Net(10, 4, ((0, 1, 0, 8), (1, 2, 0, 8), (2, 3, 0, 8)))
        self.check(net, leader(net, ()), last(net, ()), 24)
        self.check(net, last(net, ()), leader(net, ()), 24)

    def test_at_the_limits(self):
        net = Net(1440, 24, [(event, event + 1, 0, 1438) for event in range(23)])
        self.check(net, leader(net, ()), last(net, ()), 23 * 1438)

    def test_pieces_move_together(self):
        net = Net(10, 4, ((0, 1, 1, 2), (2, 3, 1, 2)))
        self.check(net, (0, 1, 0, 1), (3, 4, 2, 3), 3)
        self.check(net, (0, 1, 0, 1), (3, 4, 8, 9), 5)
        self.check(net, (0, 1, 0, 1), (4, 5, 6, 7), 6)
        self.check(net, (0, 1, 0, 1), (6, 7, 6, 7), 4)
        self.check(net, (0, 1, 0, 1), (5, 7, 5, 6), 5)
        self.check(Net(10, 3, ()), (0, 0, 0), (3, 6, 9), 3 + 4)
        self.check(Net(12, 4, ()), (0, 0, 0, 0), (1, 4, 7, 10), 4 + 5)

    def test_whole_moments_given_as_ratios(self):
        told = way_to(line(), (Ratio(0, 1), Ratio(3, 1), 5, 8), (1, 4, 6, Ratio(9, 1)))
        self.assertEqual(told, ("moves", [((0, 1, 2, 3), 1)]))

    def test_between_two_islands(self):
        ring = ((1, True), (0, True))
        self.assertEqual(way_to(pair(), (0, 8), (0, 5)), ("ring", ring, 2, 3))
        self.assertEqual(way_to(pair(), (4, 0), (7, Ratio(6, 1))), ("ring", ring, 3, 2))
        for one in range(10):
            if one not in (4, 7):
                told = way_to(pair(), (0, one), (1, 7))
                self.assertEqual(told[0], "moves" if one in (5, 6) else "ring")
                self.assertIs(is_way_to(pair(), (0, one), (1, 7), told), True)

    def test_the_first_ring_of_unlike_rounds(self):
        net = Net(10, 4, ((0, 1, 0, 5), (0, 1, 0, 8), (2, 3, 0, 8), (2, 3, 12, 20)))
        rings = [((1, True), (0, False)), ((3, True), (2, False))]
        self.assertEqual(way_to(net, (0, 1, 0, 2), (0, 1, 0, 0)), ("ring", rings[1], 1, 2))
        self.assertEqual(way_to(net, (0, 1, 0, 0), (0, 5, 0, 8)), ("ring", rings[1], 2, 1))
        net = Net(10, 4, ((0, 1, 0, 8), (0, 1, 2, 10), (2, 3, 0, 8), (2, 3, 12, 20)))
        self.assertEqual(way_to(net, (0, 0, 0, 2), (0, 2, 0, 0)), ("ring", rings[0], 1, 0))

    def test_timetables_that_are_not_whole(self):
        for thing in things() + [(0, 3, 7, 9), (HALF, Ratio(7, 2), Ratio(11, 2), Ratio(17, 2)), (0, HALF + 2, 5, 8)]:
            self.assertEqual(error_of(way_to, line(), thing, RIGHT), ("BadTimetable",))
            self.assertEqual(error_of(way_to, line(), RIGHT, thing), ("BadTimetable",))


class IsWayToTest(unittest.TestCase):

    def test_right_moves(self):
        up, down = ((0, 1, 2, 3), 1), ((0, 1, 2, 3), -1)
        for moves in [[up], [up, up, down], [down] * 9, [((1,), 1), ((0,), 1), ((2,), 1), ((3,), 1)]]:
            self.assertIs(is_way_to(line(), RIGHT, (1, 4, 6, 9), ("moves", moves)), True)
        whole = (Ratio(1, 1), Ratio(4, 1), 6, 9)
        self.assertIs(is_way_to(line(), (0, 3, Ratio(5, 1), 8), whole, ("moves", [up])), True)
        self.assertIs(is_way_to(line(), RIGHT, RIGHT, ("moves", [])), True)

    def test_spoiled_moves(self):
        up, down = ((0, 1, 2, 3), 1), ((0, 1, 2, 3), -1)
        for thing in [
            ["moves", [up]], ("moves", (up,)), ("moves", []), ("moves", [up, up]), ("moves", [down]), ("move", [up]),
            (b"moves", [up]), ("ring", [up]), ("moves", [up], None), ("moves",), ("moves", [up, None]),
            ("moves", [((0, 1, 2, 3), True)]), ("moves", [((0, 1, 2, 3), Ratio(1, 1))]), ("moves", [[(0, 1, 2, 3), 1]]),
            ("moves", [([0, 1, 2, 3], 1)]), ("moves", {up: 1}), ("moves", None), ("moves", [up, ((), 1)]),
            ("moves", [((1,), 1), ((1,), 1), ((1,), -1), ((0, 2, 3), 1)]), "moves", (None, [up]), ([], [up]),
        ]:
            with self.subTest(thing=thing):
                self.assertIs(is_way_to(line(), RIGHT, (1, 4, 6, 9), thing), False)

    def test_right_rings(self):
        ring = ((1, True), (0, True))
        for thing in [
            ("ring", ring, 2, 3), ("ring", ring[::-1], 2, 3), ("ring", ring * 2, 4, 6),
            ("ring", ((0, False), (1, False)), -2, -3), ("ring", ring + ((1, True), (1, False)), 2, 3),
        ]:
            self.assertIs(is_way_to(pair(), (0, 8), (0, 5), thing), True)
            self.assertIs(is_way_to(pair(), (0, 5), (0, 8), thing), False)
            self.assertIs(is_way_to(pair(), (0, Ratio(8, 1)), (Ratio(0, 1), 5), thing), True)

    def test_spoiled_rings(self):
        ring = ((1, True), (0, True))
        for thing in [
            ("ring", ring, 3, 2), ("ring", ring, 2, 2), ("ring", ring, 3, 3), ("ring", ring, 2, 4), ("ring", ring, 1, 3),
            ["ring", ring, 2, 3], ("ring", list(ring), 2, 3), ("rings", ring, 2, 3), ("moves", ring, 2, 3),
            (b"ring", ring, 2, 3), ("ring", ring, Ratio(2, 1), 3), ("ring", ring, 2, Ratio(3, 1)), ("ring", ring, "2", 3),
            ("ring", ring, 2, None), ("ring", ring[:1], 2, 3), ("ring", (), 0, 0), ("ring", (), 2, 3), ("ring", ring, 2),
            ("ring", ring, 2, 3, 4), ("ring", ((0, True), (0, False)), 0, 0), ("ring", ((1, 1), (0, 1)), 2, 3),
            ("ring", None, 2, 3), (None, ring, 2, 3), ("ring", ((0, True), (0, False)), False, 0), ("moves", []),
        ]:
            with self.subTest(thing=thing):
                self.assertIs(is_way_to(pair(), (0, 8), (0, 5), thing), False)

    def test_flags_are_no_rounds(self):
        net = Net(10, 2, ((0, 1, 0, 8), (1, 0, 0, 8)))
        ring = ((1, True), (0, True))
        self.assertEqual(way_to(net, (0, 0), (0, 5)), ("ring", ring, 0, 1))
        for first, second in [(False, 1), (0, True), (False, True)]:
            self.assertIs(is_way_to(net, (0, 0), (0, 5), ("ring", ring, first, second)), False)

    def test_things_of_any_kind(self):
        for thing in things():
            for one, other in [(RIGHT, (1, 4, 6, 9)), (RIGHT, (0, 2, 4, 7))]:
                self.assertIs(is_way_to(line(), one, other, thing), False)
            for told in [("moves", thing), ("moves", [thing]), (thing, []), ("ring", thing, 1, 2), ("ring", ROUND, 1, thing)]:
                self.assertIs(is_way_to(line(), RIGHT, (1, 4, 6, 9), told), False)


if __name__ == "__main__":
    unittest.main()
