"""Windows and what is sure of further spans: points 17.1 and 17.2."""

import random
import time
import unittest

from likespans.islands import island_of, islands, places
from likespans.nets import Net, pieces
from likespans.ratios import Ratio
from likespans.timetables import is_timetable
from likespans.windows import is_word, window, word
from tests.slow import slow_timetables, some_net
from tests.test_islands import flower, none, two_rings
from tests.test_slack import parted, wide_net
from tests.things import error_of, line, things

RIGHT = (0, 3, 5, 8)
HALF = Ratio(1, 2)


def slow_windows(net, one, other):
    """For each island all numbers by which the place of the one event is below that of the other one."""
    found = {}
    for moments in slow_timetables(net):
        row = places(net, moments)
        found.setdefault(island_of(net, moments), set()).add(row[other] - row[one])
    return found


def slow_keeps(net, span, moments):
    """Whether a whole timetable keeps a span, by trying all numbers within its bounds."""
    i, j, low, high = span
    return any((moments[i] + number - moments[j]) % net.beat == 0 for number in range(low, high + 1))


def some_span(chance, net):
    """A span between two events of one piece, None if no two are in one."""
    piece = chance.choice([piece for piece in pieces(net) if len(piece) > 1] or [None])
    if piece is None:
        return None
    i, j = chance.sample(piece, 2)
    low = chance.randint(0, 2 * net.beat)
    return (i, j, low, low + chance.randint(0, net.beat - 2))


class WindowTest(unittest.TestCase):

    def test_examples(self):
        self.assertEqual(window(line(), (1,), 0, 1), (2, 4))
        self.assertEqual(window(line(), (1,), 1, 0), (-4, -2))
        self.assertEqual(window(line(), (1,), 0, 2), (3, 7))
        self.assertEqual(window(line(), (1,), 3, 0), (-9, -7))
        self.assertEqual(window(line(), (1,), 2, 2), (0, 0))
        self.assertIsInstance(window(line(), (1,), 0, 1), tuple)

    def test_trees_and_pieces(self):
        # A forest, with spans forth and back along the ways.
        net = Net(10, 6, ((0, 1, 2, 4), (2, 1, 1, 8), (3, 4, 15, 16)))
        for one, other, told in [
            (0, 1, (2, 4)), (0, 2, (-6, 3)), (2, 0, (-3, 6)), (1, 2, (-8, -1)), (3, 4, (15, 16)), (4, 3, (-16, -15)), (0, 0, (0, 0)),
            (5, 5, (0, 0)), (0, 3, None), (4, 1, None), (5, 0, None), (2, 5, None),
        ]:
            self.assertEqual(window(net, (), one, other), told)
        self.assertIsNone(window(parted(), islands(parted())[0], 1, 5))
        self.assertIsNone(window(parted(), islands(parted())[0], 3, 0))

    def test_islands(self):
        net = two_rings()
        for island in islands(net):
            for one in range(3):
                for other in range(3):
                    found = slow_windows(net, one, other)[island]
                    self.assertEqual(window(net, island, one, other), (min(found), max(found)))

    def test_against_all_whole_timetables(self):
        chance = random.Random(170)
        for turn in range(150):
            net = some_net(chance) if turn % 2 else wide_net(chance)
            for piece in pieces(net):
                one, other = chance.choice(piece), chance.choice(piece)
                found = slow_windows(net, one, other)
                self.assertEqual(sorted(found), islands(net))
                for island, numbers in found.items():
                    least, greatest = window(net, island, one, other)
                    # All whole numbers between come, too.
                    self.assertEqual(sorted(numbers), list(range(least, greatest + 1)))

    def test_errors_in_order(self):
        for thing in things() + [(1, 1), (), [1], (True,), (Ratio(1, 1),), (None,)]:
            if thing != (0,):
                self.assertEqual(error_of(window, line(), thing, None, None), ("BadIsland", -1))
        self.assertEqual(error_of(window, line(), (0,), None, None), ("BadIsland", -2))
        self.assertEqual(error_of(window, none(), (0, 0), None, None), ("BadIsland", -2))
        for thing in things() + [4, 24]:
            for one, other in [(thing, None), (thing, 0), (0, thing)]:
                error = error_of(window, line(), (1,), one, other)
                self.assertEqual(error[0], "BadEvent")
                self.assertIs(error[1], thing)


class WordTest(unittest.TestCase):

    def check(self, net, span, told):
        """Whether an answer is what going over all whole timetables tells."""
        found = slow_windows(net, span[0], span[1])
        kept = [slow_keeps(net, span, moments) for moments in slow_timetables(net)]
        self.assertIs(is_word(net, span, told), True)
        if all(kept) or not any(kept):
            rows = [(min(found[island]), max(found[island])) for island in sorted(found)]
            self.assertEqual(told, ("sure" if all(kept) else "never", rows))
        else:
            name, timetable, other = told
            self.assertEqual(name, "open")
            for moments, right in [(timetable, True), (other, False)]:
                self.assertTrue(is_timetable(net, moments))
                self.assertTrue(all([type(moment) is int for moment in moments]))
                self.assertIs(slow_keeps(net, span, moments), right)
            self.assertIs(is_word(net, span, (name, other, timetable)), False)
        for name in ("sure", "never", "open"):
            if name != told[0]:
                self.assertIs(is_word(net, span, (name,) + told[1:]), False)
        return told[0]

    def test_examples(self):
        self.assertEqual(word(line(), (0, 2, 3, 7)), ("sure", [(3, 7)]))
        self.assertEqual(word(line(), (0, 2, 2, 8)), ("sure", [(3, 7)]))
        self.assertEqual(word(line(), (0, 2, 13, 17)), ("sure", [(3, 7)]))
        self.assertEqual(word(line(), (2, 0, 3, 7)), ("sure", [(-7, -3)]))
        self.assertEqual(word(line(), (0, 2, 8, 12)), ("never", [(3, 7)]))
        self.assertEqual(word(line(), (0, 2, 0, 2)), ("never", [(3, 7)]))
        for span in [(0, 2, 3, 6), (0, 2, 4, 7), (0, 2, 5, 5), (0, 2, 0, 3), (0, 2, 7, 8), (0, 2, 8, 13), (0, 2, 2876, 2876)]:
            self.check(line(), span, word(line(), span))
            self.assertEqual(word(line(), span)[0], "open")

    def test_spans_that_stand_there_already(self):
        for net in (line(), two_rings(), parted()):
            for span in net.spans:
                told = word(net, span)
                self.assertEqual(told, ("sure", [window(net, island, span[0], span[1]) for island in islands(net)]))
                # The other way round it is sure, too, by whole beats.
                i, j, low, high = span
                back = (j, i, 3 * net.beat - high, 3 * net.beat - low)
                self.assertEqual(word(net, back)[0], "sure")

    def test_several_islands(self):
        # Two islands, one of which keeps the span for sure, the other one never.
        net = Net(10, 2, ((0, 1, 0, 4), (0, 1, 3, 11)))
        self.assertEqual(islands(net), [(0,), (1,)])
        self.assertEqual([window(net, island, 0, 1) for island in islands(net)], [(3, 4), (0, 1)])
        self.assertEqual(word(net, (0, 1, 0, 4))[1], [(3, 4), (0, 1)])
        self.assertEqual(word(net, (0, 1, 3, 4))[0], "open")
        self.assertEqual(word(net, (0, 1, 5, 9)), ("never", [(3, 4), (0, 1)]))
        for span in [(0, 1, 3, 4), (0, 1, 0, 1), (0, 1, 2, 2), (0, 1, 3, 11), (0, 1, 0, 3), (1, 0, 6, 7), (1, 0, 0, 8)]:
            self.check(net, span, word(net, span))

    def test_against_all_whole_timetables(self):
        chance = random.Random(171)
        seen = {}
        for turn in range(400):
            net = some_net(chance) if turn % 2 else wide_net(chance)
            span = some_span(chance, net)
            if span is not None and islands(net):
                name = self.check(net, span, word(net, span))
                seen[(name, len(islands(net)) > 1)] = True
        self.assertEqual(len(seen), 6)

    def test_bounds_up_to_the_limits(self):
        net = Net(1440, 3, ((0, 1, 1000, 2438), (1, 2, 0, 1438)))
        for span, told in [
            ((0, 1, 1440, 2878), "open"), ((0, 1, 1000, 2438), "sure"), ((0, 1, 1442, 2880), "open"), ((0, 2, 0, 1438), "open"),
            ((0, 1, 2440, 2880), "open"), ((0, 1, 2439, 2439), "never"), ((1, 2, 2879, 2879), "never"), ((1, 2, 1440, 2878), "sure"),
        ]:
            self.assertEqual(word(net, span)[0], told)
            self.assertTrue(is_word(net, span, word(net, span)))
        start = time.time()
        net = flower(7)
        told = word(net, (1, 14, 1, 8))
        self.assertTrue(is_word(net, (1, 14, 1, 8), told))
        self.assertEqual(len(word(net, net.spans[20])[1]), 3 ** 7)
        self.assertLess(time.time() - start, 4)

    def test_errors_in_order(self):
        for thing in things() + [
            (0, 0, 1, 2), (0, 4, 1, 2), (4, 0, 1, 2), (0, 1, 2), (0, 1, 3, 2), (0, 1, 0, 9), (0, 1, -1, 2), [0, 1, 1, 2], (0, True, 1, 2),
            (0, 1, 2873, 2881), (0, 1, 1, Ratio(2, 1)), (0, 1, 1, 2, 3), (0, 1, None, 2), (0, -1, 1, 2), ("0", 1, 1, 2),
        ]:
            self.assertEqual(error_of(word, line(), thing), ("BadSpan", 0))
        self.assertEqual(error_of(word, parted(), (0, 5, 1, 11)), ("BadSpan", 0))
        self.assertEqual(error_of(word, parted(), (0, 5, 1, 2)), ("OtherPiece",))
        self.assertEqual(error_of(word, Net(10, 2, ()), (0, 1, 1, 2)), ("OtherPiece",))
        empty = Net(10, 3, none().spans)
        self.assertEqual(error_of(word, empty, (0, 2, 1, 2)), ("OtherPiece",))
        self.assertEqual(error_of(word, empty, (0, 1, 1, 2)), ("NoTimetable",))
        self.assertEqual(error_of(word, empty, (0, 3, 1, 2)), ("BadSpan", 0))


class IsWordTest(unittest.TestCase):

    def test_things(self):
        for span in [(0, 2, 3, 7), (0, 2, 8, 12), (0, 2, 3, 6)]:
            told = word(line(), span)
            for thing in things() + [list(told), told[::-1], told + (0,), told[:1], (), ("sure",), ("open", RIGHT), ("never", [])]:
                self.assertIs(is_word(line(), span, thing), False)
                for at in range(len(told)):
                    self.assertIs(is_word(line(), span, told[:at] + (thing,) + told[at + 1:]), False)

    def test_windows(self):
        net, span = two_rings(), (0, 1, 1, 4)
        name, windows = word(net, span)
        self.assertEqual((name, len(windows)), ("sure", 3))
        equal = [(Ratio(least, 1), Ratio(greatest, 1)) for least, greatest in windows]
        self.assertIs(is_word(net, span, (name, equal)), True)
        for other in [
            windows[:2], windows + windows[:1], windows[::-1], tuple(windows), [list(pair) for pair in windows], [],
            [pair + (0,) for pair in windows], [pair[:1] for pair in windows], [pair[::-1] for pair in windows],
            [(least, greatest + 1) for least, greatest in windows], [(least - 1, greatest) for least, greatest in windows],
            [(least, None) for least, greatest in windows], [(float(least), greatest) for least, greatest in windows],
            [(least + HALF, greatest) for least, greatest in windows], {0: windows}, "windows", None,
        ]:
            self.assertIs(is_word(net, span, (name, other)), False)
        self.assertIs(is_word(net, span, ("never", windows)), False)
        # Flags are no numbers.
        net = Net(10, 2, ((0, 1, 0, 1),))
        self.assertEqual(word(net, (0, 1, 0, 1)), ("sure", [(0, 1)]))
        self.assertIs(is_word(net, (0, 1, 0, 1), ("sure", [(False, True)])), False)
        self.assertIs(is_word(net, (0, 1, 0, 1), ("sure", [(0, True)])), False)
        self.assertIs(is_word(net, (0, 1, 0, 1), ("sure", [(Ratio(0, 7), 1)])), True)

    def test_timetables(self):
        span = (0, 2, 3, 6)
        keeping, other = (1, 4, 6, 9), (0, 4, 7, 9)
        self.assertIs(is_word(line(), span, ("open", keeping, other)), True)
        self.assertIs(is_word(line(), span, ("open", (Ratio(1, 1), 4, 6, Ratio(18, 2)), other)), True)
        for one, two in [
            (other, keeping), (keeping, keeping), (other, other), (keeping, (0, 3, 7, 9)), ((0, 3, 7, 9), other), (list(keeping), other),
            (keeping, list(other)), (tuple([moment + HALF for moment in (1, 4, 6, 8)]), other), (keeping, (0, 4, Ratio(13, 2), 9)),
            (keeping, None), (None, other), (keeping[:3], other), (keeping, other + (0,)), ((1, 4, 6, 19), other), ((True, 4, 6, 9), other),
        ]:
            self.assertIs(is_word(line(), span, ("open", one, two)), False)
        # What is sure is not open.
        self.assertIs(is_word(line(), (0, 2, 3, 7), ("open", keeping, other)), False)


if __name__ == "__main__":
    unittest.main()
