"""Nets: points 0.2 to 0.4, 2.1, and pieces of 2.2."""

import unittest

from likespans.errors import BadBeat, BadEvents, BadSpan
from likespans.nets import Net, pieces
from likespans.ratios import Ratio
from tests.things import line, things


def many_spans(many):
    """So many unlike spans between 24 events."""
    pairs = [(i, j) for i in range(24) for j in range(24) if i != j]
    return [(i, j, 1, 2) for i, j in pairs[:many]]


class NetTest(unittest.TestCase):

    def fault(self, spans, beat=10, events=4):
        """The index that BadSpan tells, None where the net is made."""
        try:
            Net(beat, events, spans)
        except BadSpan as error:
            return error.index
        return None

    def test_beats(self):
        self.assertEqual([Net(beat, 1, ()).beat for beat in (3, 4, 1440)], [3, 4, 1440])
        for beat in (2, 0, -3, 1441, 10 ** 40):
            with self.assertRaises(BadBeat) as caught:
                Net(beat, 1, ())
            self.assertEqual(caught.exception.beat, beat)

    def test_numbers_of_events(self):
        self.assertEqual([Net(3, events, ()).events for events in (1, 2, 24)], [1, 2, 24])
        for events in (0, -1, 25, 10 ** 40):
            with self.assertRaises(BadEvents) as caught:
                Net(3, events, ())
            self.assertEqual(caught.exception.events, events)

    def test_wrong_kinds(self):
        for thing in things():
            with self.subTest(thing=thing):
                if type(thing) is not int:
                    with self.assertRaises(BadBeat) as caught:
                        Net(thing, 4, ())
                    self.assertIs(caught.exception.beat, thing)
                    with self.assertRaises(BadEvents) as caught:
                        Net(10, thing, ())
                    self.assertIs(caught.exception.events, thing)
                if not isinstance(thing, (list, tuple)):
                    self.assertEqual(self.fault(thing), -1)
                elif thing:
                    self.assertEqual(self.fault(thing), 0)
                self.assertEqual(self.fault([(0, 1, 1, 2), thing]), 1)
                for place in range(4):
                    span = [0, 1, 1, 2]
                    span[place] = thing
                    self.assertEqual(self.fault([tuple(span)]), 0)

    def test_which_error_comes_first(self):
        self.assertRaises(BadBeat, Net, 2, 0, None)
        self.assertRaises(BadEvents, Net, 3, 0, None)
        self.assertEqual(self.fault(many_spans(60) + [None]), -1)
        self.assertEqual(self.fault([None] * 61), -1)
        self.assertEqual(self.fault([(0, 1, 1, 2), (0, 1, 1, 2), None]), 1)
        self.assertEqual(self.fault([(0, 1, 1, 2), None, (0, 1, 1, 2)]), 1)

    def test_so_many_spans(self):
        for row in (many_spans(60), tuple(many_spans(60))):
            self.assertEqual(Net(10, 24, row).spans, tuple(row))
        for row in (many_spans(61), tuple(many_spans(61))):
            self.assertEqual(self.fault(row, 10, 24), -1)

    def test_spans_at_their_limits(self):
        for span in [(0, 3, 0, 0), (3, 0, 0, 8), (0, 1, 2880, 2880), (1, 0, 2872, 2880), (0, 1, 5, 13)]:
            with self.subTest(span=span):
                self.assertIsNone(self.fault([span]))

    def test_spans_with_one_clause_broken(self):
        for span in [
            (0, 4, 1, 2), (4, 0, 1, 2), (-1, 0, 1, 2), (0, -1, 1, 2), (1, 1, 1, 2), (0, 1, -1, 2), (0, 1, -2, -1),
            (0, 1, 2880, 2881), (0, 1, 2881, 2881), (0, 1, 3, 2), (0, 1, 0, 9), (0, 1, 2871, 2880),
        ]:
            with self.subTest(span=span):
                self.assertEqual(self.fault([span]), 0)
                self.assertEqual(self.fault([(2, 3, 1, 2), span]), 1)

    def test_widths_at_other_beats(self):
        self.assertIsNone(self.fault([(0, 1, 0, 1)], 3))
        self.assertEqual(self.fault([(0, 1, 0, 2)], 3), 0)
        self.assertIsNone(self.fault([(0, 1, 0, 1438)], 1440))
        self.assertEqual(self.fault([(0, 1, 0, 1439)], 1440), 0)

    def test_spans_of_another_length_or_kind(self):
        for span in [
            (), (0, 1, 1), (0, 1, 1, 2, 3), [0, 1, 1, 2], "0112", {0: 1, 1: 2, 2: 3, 3: 4}, range(4),
            (False, 1, 1, 2), (0, True, 1, 2), (0, 1, True, 2), (0, 1, 0, True), (0, 1, Ratio(1, 1), 2),
            (0, 1, 1, Ratio(2, 1)), (Ratio(0, 1), 1, 1, 2), (0, "1", 1, 2),
        ]:
            with self.subTest(span=span):
                self.assertEqual(self.fault([span]), 0)

    def test_spans_that_stand_there_ahead(self):
        self.assertEqual(self.fault([(0, 1, 1, 2), (1, 2, 1, 2), (0, 1, 1, 2)]), 2)
        self.assertIsNone(self.fault([(0, 1, 1, 2), (1, 0, 1, 2), (0, 1, 1, 3), (0, 1, 0, 2)]))

    def test_copies_are_kept(self):
        spans = [(0, 1, 2, 4), (1, 2, 1, 3)]
        net = Net(10, 4, spans)
        spans.append((2, 3, 2, 4))
        spans[0] = None
        self.assertEqual(net.spans, ((0, 1, 2, 4), (1, 2, 1, 3)))
        self.assertEqual((net.beat, net.events), (10, 4))
        self.assertIs(type(net.spans), tuple)

    def test_errors_change_nothing(self):
        spans = [(0, 1, 2, 4), None]
        self.assertEqual(self.fault(spans), 1)
        self.assertEqual(spans, [(0, 1, 2, 4), None])

    def test_equal_if_all_three_are(self):
        self.assertTrue(line() == line())
        self.assertFalse(line() != line())
        self.assertEqual(Net(10, 4, list(line().spans)), line())
        for other in [Net(11, 4, line().spans), Net(10, 5, line().spans), Net(10, 4, line().spans[:3])]:
            self.assertFalse(line() == other)
            self.assertTrue(line() != other)
        self.assertNotEqual(Net(10, 4, line().spans[::-1]), line())

    def test_equal_to_nothing_of_another_kind(self):
        for thing in things() + [(10, 4, line().spans)]:
            if not isinstance(thing, Net):
                self.assertIs(line() == thing, False)
                self.assertIs(thing == line(), False)


class PiecesTest(unittest.TestCase):

    def test_example(self):
        self.assertEqual(pieces(line()), [[0, 1, 2, 3]])

    def test_no_spans(self):
        self.assertEqual(pieces(Net(5, 1, ())), [[0]])
        self.assertEqual(pieces(Net(5, 3, ())), [[0], [1], [2]])

    def test_several_pieces(self):
        net = Net(5, 7, ((6, 2, 1, 1), (5, 0, 1, 2), (2, 3, 0, 0)))
        self.assertEqual(pieces(net), [[0, 5], [1], [2, 3, 6], [4]])

    def test_events_out_of_order(self):
        net = Net(5, 6, ((5, 4, 1, 1), (3, 2, 1, 1), (4, 3, 1, 1), (1, 0, 0, 1)))
        self.assertEqual(pieces(net), [[0, 1], [2, 3, 4, 5]])
        net = Net(5, 6, ((3, 5, 1, 1), (1, 4, 1, 1), (0, 2, 1, 1), (2, 5, 1, 1), (4, 5, 1, 1)))
        self.assertEqual(pieces(net), [[0, 1, 2, 3, 4, 5]])

    def test_rings_and_spans_side_by_side(self):
        net = Net(5, 4, ((0, 2, 1, 1), (2, 0, 1, 1), (0, 2, 1, 2), (1, 3, 1, 1)))
        self.assertEqual(pieces(net), [[0, 2], [1, 3]])

    def test_each_list_is_new(self):
        net = line()
        told = pieces(net)
        told[0].append(9)
        told.append([])
        self.assertEqual(pieces(net), [[0, 1, 2, 3]])


if __name__ == "__main__":
    unittest.main()
