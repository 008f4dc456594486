"""Timetables: points 3.1 to 3.3, and example e03."""

import unittest

from likespans.nets import Net, pieces
from likespans.ratios import Ratio
from likespans.timetables import (
    from_lengths, is_timetable, is_whole, lengths, moments_fault, shift_between, shifted,
)
from tests.things import error_of, is_plain, knot, line, things

HALF = Ratio(1, 2)


class FaultTest(unittest.TestCase):

    def test_example(self):
        shown = (lengths(line(), (0, 3, 5, 8)), moments_fault(line(), (0, 3, 7, 9)))
        self.assertEqual(shown, ((3, 2, 3, 2), ("span", 1)))

    def test_timetables(self):
        for thing in [
            (0, 3, 5, 8), (0, 2, 3, 7), (9, 2, 4, 7), (0, Ratio(5, 2), 4, 7), (Ratio(0, 1), Ratio(3, 1), 5, 8),
            (HALF, HALF + 3, HALF + 5, HALF + 8),
        ]:
            self.assertIsNone(moments_fault(line(), thing))
            self.assertIs(is_timetable(line(), thing), True)

    def test_faults(self):
        for thing, fault in [
            ((0, 3, 5), ("moments", -1)), ((0, 3, 5, 8, 0), ("moments", -1)), ([0, 3, 5, 8], ("moments", -1)),
            ((), ("moments", -1)), ((10, 3, 5, 8), ("moments", 0)), ((0, -1, 5, 8), ("moments", 1)),
            ((0, 3, Ratio(10, 1), 8), ("moments", 2)), ((0, 3, 5, Ratio(-1, 2)), ("moments", 3)),
            ((0, 3, 5, Ratio(21, 2)), ("moments", 3)), ((False, 3, 5, 8), ("moments", 0)),
            ((0, 3, "5", 8), ("moments", 2)), ((0, 3, 5, None), ("moments", 3)), ((0, 3, 5, (8,)), ("moments", 3)),
            ((0, None, -1, 8), ("moments", 1)), ((0, 5, 5, 10), ("moments", 3)),
            ((0, 5, 5, 8), ("span", 0)), ((0, 3, 7, 9), ("span", 1)), ((0, 3, 5, 5), ("span", 2)),
            ((0, 4, 7, 9), None), ((0, 2, 5, 9), None), ((1, 3, 5, 8), None), ((2, 4, 5, 8), ("span", 3)),
            ((0, Ratio(9, 2), 6, 9), ("span", 0)), ((0, Ratio(3, 2), 4, 7), ("span", 0)),
            ((5, 5, 5, 5), ("span", 0)),
        ]:
            with self.subTest(thing=thing):
                self.assertEqual(moments_fault(line(), thing), fault)
                self.assertIs(is_timetable(line(), thing), fault is None)

    def test_any_object_is_judged(self):
        for thing in things():
            with self.subTest(thing=thing):
                self.assertIs(is_timetable(line(), thing), False)
                self.assertIs(type(moments_fault(line(), thing)), tuple)
                if type(thing) is not int and not isinstance(thing, Ratio):
                    self.assertEqual(moments_fault(line(), (0, thing, 5, 8)), ("moments", 1))

    def test_whole(self):
        for thing in [(0, 3, 5, 8), (Ratio(0, 1), Ratio(3, 1), 5, 8)]:
            self.assertIs(is_whole(line(), thing), True)
        for thing in things() + [(0, 3, 7, 9), (0, Ratio(5, 2), 4, 7), [0, 3, 5, 8]]:
            self.assertIs(is_whole(line(), thing), False)

    def test_the_beat_itself(self):
        net = Net(10, 1, ())
        self.assertEqual([is_timetable(net, (moment,)) for moment in (0, 9, 10, Ratio(19, 2), Ratio(20, 2))],
                         [True, True, False, True, False])

    def test_nothing_is_broken_at_the_bounds(self):
        net = Net(3, 2, ((0, 1, 4, 5),))
        self.assertEqual([is_timetable(net, (0, moment)) for moment in (0, 1, 2, Ratio(3, 2), Ratio(5, 2))],
                         [False, True, True, True, False])


class LengthsTest(unittest.TestCase):

    def test_lengths_wrap_over_the_beat(self):
        self.assertEqual(lengths(line(), (8, 1, 3, 6)), (3, 2, 3, 2))
        self.assertEqual(lengths(Net(10, 2, ((0, 1, 25, 33), (1, 0, 0, 8))), (4, 1)), (27, 3))
        self.assertEqual(lengths(Net(10, 2, ((0, 1, 20, 28),)), (4, 4)), (20,))
        self.assertEqual(lengths(Net(10, 3, ()), (4, 4, 1)), ())

    def test_fractions(self):
        told = lengths(line(), (HALF, Ratio(7, 2), Ratio(16, 3), Ratio(25, 3)))
        self.assertEqual(told, (3, Ratio(11, 6), 3, Ratio(13, 6)))
        self.assertTrue(all([is_plain(number) for number in told]))
        self.assertIs(type(lengths(line(), (Ratio(0, 1), Ratio(3, 1), 5, 8))[0]), int)

    def test_no_timetables(self):
        for thing in things() + [(0, 3, 7, 9), [0, 3, 5, 8], (0, 3, 5, 10)]:
            self.assertEqual(error_of(lengths, line(), thing), ("BadTimetable",))


class ShiftTest(unittest.TestCase):

    def test_shifted(self):
        for number, told in [
            (0, (0, 3, 5, 8)), (1, (1, 4, 6, 9)), (2, (2, 5, 7, 0)), (-1, (9, 2, 4, 7)), (10, (0, 3, 5, 8)),
            (25, (5, 8, 0, 3)), (-25, (5, 8, 0, 3)), (10 ** 39 + 1, (1, 4, 6, 9)),
            (HALF, (HALF, Ratio(7, 2), Ratio(11, 2), Ratio(17, 2))),
            (Ratio(-1, 2), (Ratio(19, 2), Ratio(5, 2), Ratio(9, 2), Ratio(15, 2))), (Ratio(4, 1), (4, 7, 9, 2)),
        ]:
            with self.subTest(number=number):
                found = shifted(line(), (0, 3, 5, 8), number)
                self.assertEqual(found, told)
                self.assertTrue(all([is_plain(moment) for moment in found]))
                self.assertEqual(shifted(line(), found, -number), (0, 3, 5, 8))

    def test_which_error_comes_first(self):
        self.assertEqual(error_of(shifted, line(), (0, 3, 7, 9), None), ("BadTimetable",))
        for thing in things():
            if type(thing) is not int and not isinstance(thing, Ratio):
                self.assertEqual(error_of(shifted, line(), (0, 3, 5, 8), thing), ("BadNumber", thing))
            self.assertEqual(error_of(shifted, line(), thing, 1), ("BadTimetable",))

    def test_between(self):
        self.assertEqual(shift_between(line(), (0, 3, 5, 8), (8, 1, 3, 6)), (8,))
        self.assertEqual(shift_between(line(), (8, 1, 3, 6), (0, 3, 5, 8)), (2,))
        self.assertEqual(shift_between(line(), (0, 3, 5, 8), (0, 3, 5, 8)), (0,))
        self.assertEqual(shift_between(line(), (0, 3, 5, 8), (HALF, Ratio(7, 2), Ratio(11, 2), Ratio(17, 2))), (HALF,))
        self.assertIsNone(shift_between(line(), (0, 3, 5, 8), (0, 2, 5, 8)))

    def test_between_pieces_that_are_shifted_unlike(self):
        net = Net(10, 5, ((0, 2, 1, 3), (4, 1, 2, 2)))
        one = (1, 2, 3, 4, 0)
        self.assertEqual(shift_between(net, one, (0, 3, 2, 9, 1)), (9, 1, 5))
        self.assertEqual(len(pieces(net)), 3)
        self.assertEqual(shift_between(net, one, (1, 2, 3, HALF, 0)), (0, 0, Ratio(13, 2)))
        self.assertIsNone(shift_between(net, one, (1, 2, 2, 4, 0)))
        self.assertEqual(shift_between(Net(5, 2, ()), (4, 0), (Ratio(1, 1), 0)), (2, 0))
        self.assertIs(type(shift_between(Net(5, 1, ()), (4,), (Ratio(1, 1),))[0]), int)

    def test_between_what_is_no_timetable(self):
        right = (0, 3, 5, 8)
        for thing in things() + [(0, 3, 7, 9)]:
            self.assertEqual(error_of(shift_between, line(), thing, right), ("BadTimetable",))
            self.assertEqual(error_of(shift_between, line(), right, thing), ("BadTimetable",))


class FromLengthsTest(unittest.TestCase):

    def test_timetables(self):
        for row, told in [
            ((3, 2, 3, 2), (0, 3, 5, 8)), ([2, 1, 4, 3], (0, 2, 3, 7)),
            ((HALF + 2, Ratio(3, 2), 3, 3), (0, Ratio(5, 2), 4, 7)), ((Ratio(6, 2), 2, 3, 2), (0, 3, 5, 8)),
        ]:
            found = from_lengths(line(), row)
            self.assertEqual(found, ("timetable", told))
            self.assertTrue(all([is_plain(moment) for moment in found[1]]))
            self.assertEqual(lengths(line(), found[1]), tuple(row))

    def test_first_events_at_0(self):
        net = Net(10, 5, ((3, 2, 4, 4), (4, 1, 2, 9)))
        self.assertEqual(from_lengths(net, (4, 7)), ("timetable", (0, 0, 0, 6, 3)))
        self.assertEqual(from_lengths(Net(5, 2, ()), []), ("timetable", (0, 0)))

    def test_the_first_ring_that_bars(self):
        ring = ((3, True), (0, True), (1, True), (2, True))
        for row in [(2, 1, 2, 1), (3, 2, 3, 3), (HALF + 2, 2, 3, 2), (4, 3, 4, Ratio(5, 2))]:
            self.assertEqual(from_lengths(line(), row), ("ring", ring))
        net = Net(10, 3, ((0, 1, 1, 3), (1, 2, 1, 3), (1, 0, 6, 9), (2, 0, 5, 8)))
        self.assertEqual(from_lengths(net, (2, 2, 7, 7)), ("ring", ((2, True), (0, True))))
        self.assertEqual(from_lengths(net, (2, 2, 8, 7)), ("ring", ((3, True), (0, True), (1, True))))
        self.assertEqual(from_lengths(net, (2, 2, 8, 6)), ("timetable", (0, 2, 4)))

    def test_spans_gone_back_count_below_0(self):
        net = Net(10, 2, ((0, 1, 2, 4), (0, 1, 3, 9)))
        self.assertEqual(from_lengths(net, (3, 3)), ("timetable", (0, 3)))
        self.assertEqual(from_lengths(net, (3, 4)), ("ring", ((1, True), (0, False))))
        self.assertEqual(from_lengths(Net(10, 2, ((0, 1, 2, 4), (0, 1, 13, 19))), (3, 13)), ("timetable", (0, 3)))

    def test_no_rows(self):
        for thing in things():
            if not isinstance(thing, (list, tuple)) or len(thing) != 4:
                self.assertEqual(error_of(from_lengths, line(), thing), ("BadLengths", -1))
        for thing in [(3, 2, 3), [3, 2, 3, 2, 3], (), "3232", {3: 2, 2: 3, 1: 1, 0: 0}, range(4)]:
            self.assertEqual(error_of(from_lengths, line(), thing), ("BadLengths", -1))

    def test_no_lengths(self):
        right = [3, 2, 3, 2]
        for index, (low, high) in enumerate([(2, 4), (1, 3), (2, 4), (1, 3)]):
            wrong = [low - 1, high + 1, Ratio(2 * low - 1, 2), Ratio(2 * high + 1, 2)]
            wrong += [thing for thing in things() if type(thing) is not int and not isinstance(thing, Ratio)]
            for thing in wrong:
                row = right[:index] + [thing] + right[index + 1:]
                self.assertEqual(error_of(from_lengths, line(), row), ("BadLengths", index))
                self.assertEqual(error_of(from_lengths, line(), tuple(row)), ("BadLengths", index))
            for number in (low, high, Ratio(low, 1), Ratio(2 * low + 1, 2)):
                row = right[:index] + [number] + right[index + 1:]
                self.assertIsNone(error_of(from_lengths, line(), row))
        self.assertEqual(error_of(from_lengths, line(), [3, None, 9, True]), ("BadLengths", 1))


if __name__ == "__main__":
    unittest.main()
