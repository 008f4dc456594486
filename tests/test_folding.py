"""Folded nets: points 12.1 and 12.2."""

import copy
import itertools
import random
import unittest

from likespans.evening import is_even
from likespans.folding import folded, folding, folds_to, unfolded
from likespans.nets import Net, pieces
from likespans.ratios import Ratio
from likespans.timetables import is_timetable, lengths, shift_between, shifted
from likespans.ways import base
from tests.slow import even_slowly, slow_lengths, slow_span_led, slow_sum, slow_timetables
from tests.test_likes import MIRROR, OTHER, ROUND, SAME, not_likenesses
from tests.things import error_of, is_plain, line, things

HALF = Ratio(1, 2)
RIGHT = (0, 3, 5, 8)


def times_led(net, likeness, event, times):
    """The event to which an event is led so many times."""
    for _ in range(times):
        event = likeness[0][event]
    return event


def some_fold(chance):
    """A net made by chance, with a likeness in cycles of one length, by which it may fold."""
    many = chance.choice([2, 2, 2, 3, 3, 4])
    lists = chance.randint(1, 3)
    beat = many * chance.randint(3, 5)
    events = chance.sample(range(many * lists), many * lists)
    moved = [0] * len(events)
    for at, event in enumerate(events):
        moved[event] = events[at + 1 if (at + 1) % many else at + 1 - many]
    spans = []
    for _ in range(chance.randint(0, 4)):
        i, j = chance.sample(range(len(events)), 2)
        low = chance.randint(0, beat)
        high = low + chance.randint(0, beat // many - 2)
        for _ in range(many):
            if (i, j, low, high) not in spans:
                spans.append((i, j, low, high))
            i, j = moved[i], moved[j]
    chance.shuffle(spans)
    return Net(beat, len(events), spans), (tuple(moved), True), many


def slow_lists(many, led):
    """The lists of what is led to one another, each in the order in which it is led on from its first one."""
    found = []
    for first in range(many):
        if not any(first in row for row in found):
            row = [first]
            while led(row[-1]) != first:
                row.append(led(row[-1]))
            found.append(row)
    return found


def slow_fold(net, likeness, many):
    """What folded tells by the lists themselves, and the turns of its spans; None for a clash."""
    events = slow_lists(net.events, lambda event: likeness[0][event])
    number = {event: at for at, row in enumerate(events) for event in row}
    step = {event: row.index(event) for row in events for event in row}
    spans = []
    turns = []
    for row in slow_lists(len(net.spans), lambda index: slow_span_led(net, likeness, index)):
        i, j, low, high = net.spans[row[0]]
        spans.append((number[i], number[j], low, high))
        turns.append(step[j] - step[i])
    if any(i == j for i, j, low, high in spans) or len(set(spans)) < len(spans):
        return None
    every = range(net.events)
    other = Net(net.beat // many, len(events), spans)
    return (other, tuple([number[at] for at in every]), tuple([step[at] for at in every])), turns


def slow_unfolded(net, likeness, told, timetable, times):
    """All timetables that fit the words of unfolded, by trying all short beats for each list."""
    other, events, steps = told
    many = net.beat // other.beat
    firsts = [piece[0] for piece in pieces(other)]
    found = []
    for later in itertools.product(range(many), repeat=other.events):
        if all(later[first] == 0 for first in firsts):
            moments = []
            for number, step in zip(events, steps):
                moments.append((timetable[number] + (later[number] + times * step) * other.beat) % net.beat)
            if slow_lengths(net, moments) is not None:
                found.append(tuple(moments))
    return found


def ladder(many, beat, low, high):
    """So many lines of two events, each with one span, and the likeness that leads each to the next one."""
    spans = [(2 * at, 2 * at + 1, low, high) for at in range(many)]
    moved = [(event + 2) % (2 * many) for event in range(2 * many)]
    return Net(beat, 2 * many, spans), (tuple(moved), True)


class FoldingTest(unittest.TestCase):

    def test_example(self):
        self.assertEqual(folding(line(), ROUND), 2)
        told = folded(line(), ROUND)
        self.assertEqual(told, (Net(5, 2, ((0, 1, 2, 4), (1, 0, 1, 3))), (0, 1, 0, 1), (0, 0, 1, 1)))
        self.assertIsInstance(told, tuple)

    def test_none_that_is_the_same_or_a_mirror(self):
        for likeness in (SAME, MIRROR, OTHER):
            self.assertEqual(folding(line(), likeness), 0)
            self.assertIs(type(folding(line(), likeness)), int)
            self.assertEqual(error_of(folded, line(), likeness), ("NoFold",))

    def test_cycles(self):
        # One cycle through all events, without spans and with them.
        for many in range(2, 25):
            moved = tuple([(event + 1) % many for event in range(many)])
            self.assertEqual(folding(Net(1440, many, ()), (moved, True)), many if 1440 % many == 0 else 0)
            self.assertEqual(folding(Net(1440, many, ()), (moved, False)), 0)
        # Cycles of unlike lengths, and those that leave an event.
        for moved, told in [
            ((1, 0, 3, 2), 2), ((1, 0, 3, 4, 2), 0), ((1, 2, 3, 0, 5, 4), 0), ((1, 0, 2), 0), ((0, 2, 1), 0),
            ((1, 2, 0, 4, 5, 3), 3), ((0, 1, 2), 0), ((0,), 0), ((5, 4, 3, 2, 1, 0), 2), ((0, 2, 3, 1), 0),
        ]:
            self.assertEqual(folding(Net(720, len(moved), ()), (moved, True)), told, moved)
        # It leaves an event and with it a span to itself.
        self.assertEqual(folding(Net(12, 4, ((0, 1, 2, 3), (2, 3, 1, 1))), ((0, 1, 2, 3), True)), 0)
        self.assertEqual(folding(Net(12, 4, ((0, 1, 2, 3),)), ((0, 1, 3, 2), True)), 0)

    def test_beats_that_are_divided(self):
        for beat in range(3, 40):
            for many in (2, 3, 4, 5, 8):
                net, likeness = ladder(many, beat, 1, 1)
                fits = beat % many == 0 and beat // many >= 3
                self.assertEqual(folding(net, likeness), many if fits else 0)
                if not fits:
                    self.assertEqual(error_of(folded, net, likeness), ("NoFold",))

    def test_widths(self):
        for beat, many, width, told in [
            (10, 2, 3, 2), (10, 2, 4, 0), (6, 2, 1, 2), (6, 2, 2, 0), (12, 4, 1, 4), (12, 4, 2, 0), (1440, 24, 58, 0),
            (1440, 12, 118, 12), (1440, 12, 119, 0), (1440, 2, 718, 2), (1440, 2, 719, 0),
        ]:
            if 2 * many <= 24:
                net, likeness = ladder(many, beat, 7, 7 + width)
                self.assertEqual(folding(net, likeness), told)
        # One list of spans that is too wide is enough.
        net = Net(10, 4, ((0, 1, 2, 4), (2, 3, 2, 4), (1, 0, 0, 4), (3, 2, 0, 4)))
        self.assertEqual(folding(net, ROUND), 0)

    def test_errors(self):
        for thing in [thing for thing, told in not_likenesses()] + things():
            self.assertEqual(error_of(folding, line(), thing), ("BadLikeness",))
            self.assertEqual(error_of(folded, line(), thing), ("BadLikeness",))


class FoldedTest(unittest.TestCase):

    def test_events_in_any_order(self):
        # The line of the examples with its events called otherwise, the first of each list not at its begin.
        names = (3, 0, 2, 1)
        spans = [(names[i], names[j], low, high) for i, j, low, high in line().spans]
        moved = [0] * 4
        for event in range(4):
            moved[names[event]] = names[ROUND[0][event]]
        net = Net(10, 4, [spans[2], spans[3], spans[0], spans[1]])
        told = folded(net, (tuple(moved), True))
        self.assertEqual(told, (Net(5, 2, ((1, 0, 2, 4), (0, 1, 1, 3))), (0, 0, 1, 1), (0, 1, 0, 1)))

    def test_a_wheel(self):
        spans = [(event, (event + 4) % 12, 3, 5) for event in range(12)]
        moved = tuple([(event + 3) % 12 for event in range(12)])
        net = Net(48, 12, spans)
        other, events, steps = folded(net, (moved, True))
        self.assertEqual(other, Net(12, 3, ((0, 1, 3, 5), (1, 2, 3, 5), (2, 0, 3, 5))))
        self.assertEqual(events, (0, 1, 2) * 4)
        self.assertEqual(steps, (0, 0, 0, 1, 1, 1, 2, 2, 2, 3, 3, 3))

    def test_clash(self):
        # Both ends in one list.
        net = Net(10, 2, ((0, 1, 1, 3), (1, 0, 1, 3)))
        self.assertEqual(folding(net, ((1, 0), True)), 2)
        self.assertEqual(error_of(folded, net, ((1, 0), True)), ("Clash",))
        # Two lists of spans that make one span: runs to the own line and to the other one.
        net = Net(10, 4, ((0, 1, 2, 4), (2, 3, 2, 4), (0, 3, 2, 4), (2, 1, 2, 4)))
        self.assertEqual(folding(net, ROUND), 2)
        self.assertEqual(error_of(folded, net, ROUND), ("Clash",))
        # With other bounds, or the other way round, they make two.
        net = Net(10, 4, ((0, 1, 2, 4), (2, 3, 2, 4), (0, 3, 2, 5), (2, 1, 2, 5)))
        self.assertEqual(folded(net, ROUND)[0], Net(5, 2, ((0, 1, 2, 4), (0, 1, 2, 5))))
        net = Net(10, 4, ((0, 1, 2, 4), (2, 3, 2, 4), (3, 0, 2, 4), (1, 2, 2, 4)))
        self.assertEqual(folded(net, ROUND)[0], Net(5, 2, ((0, 1, 2, 4), (1, 0, 2, 4))))

    def test_by_the_lists_themselves(self):
        chance = random.Random(120)
        seen = {}
        for _ in range(400):
            net, likeness, many = some_fold(chance)
            self.assertEqual(folding(net, likeness), many)
            right = slow_fold(net, likeness, many)
            if right is None:
                self.assertEqual(error_of(folded, net, likeness), ("Clash",))
            else:
                self.assertEqual(folded(net, likeness), right[0])
                for event in range(net.events):
                    first = right[0][1].index(right[0][1][event])
                    self.assertEqual(times_led(net, likeness, first, right[0][2][event]), event)
            seen[(many, right is None)] = True
        self.assertEqual(len(seen), 6)

    def test_great_nets(self):
        spans = [(event, (event + 1) % 24, 1, 60) for event in range(24)]
        spans += [(event, (event + 5) % 24, 2, 59) for event in range(24)]
        spans += [(event, (event + 3) % 24, 2, 59) for event in range(12)]
        moved = tuple([(event + 2) % 24 for event in range(24)])
        net = Net(1440, 24, spans[:48])
        self.assertEqual(folding(net, (moved, True)), 12)
        other, events, steps = folded(net, (moved, True))
        self.assertEqual((other.beat, other.events, len(other.spans)), (120, 2, 4))
        self.assertEqual(steps, tuple([event // 2 for event in range(24)]))
        self.assertEqual(error_of(folding, Net(1440, 24, spans), (moved, True)), ("BadLikeness",))


class UnfoldedTest(unittest.TestCase):

    def test_example(self):
        # The ring of the folded line goes round once, and its turn is 1.
        self.assertEqual(unfolded(line(), ROUND, (0, 3), 1), ("timetable", (0, 3, 5, 8)))
        self.assertEqual(unfolded(line(), ROUND, (0, 3), 0), ("ring", ((1, True), (0, True))))
        self.assertEqual(unfolded(line(), ROUND, (4, Ratio(15, 8)), 1), ("timetable", (4, Ratio(55, 8), 9, Ratio(15, 8))))
        self.assertEqual(unfolded(line(), ROUND, (Ratio(2, 1), 0), 1), ("timetable", (2, 5, 7, 0)))

    def test_several_pieces(self):
        # Four lines of two events: the likeness leads 0, 4, 2, 6 and 1, 5, 3, 7 to one another, or just pairs.
        net, likeness = ladder(4, 12, 1, 2)
        self.assertEqual(unfolded(net, likeness, (2, 0), 0), ("timetable", (2, 3, 2, 3, 2, 3, 2, 3)))
        self.assertEqual(unfolded(net, likeness, (2, 0), 3), ("timetable", (2, 3, 11, 0, 8, 9, 5, 6)))
        two = (tuple([(event + 4) % 8 for event in range(8)]), True)
        told = unfolded(net, two, (5, 0, 1, HALF * 5), 1)
        self.assertEqual(told, ("timetable", (5, 6, 1, HALF * 5, 11, 0, 7, HALF * 17)))
        # A folded net of two pieces whose second one has a ring that bars it.
        spans = [(0, 2, 1, 2), (1, 3, 1, 2), (4, 6, 1, 3), (5, 7, 1, 3), (6, 4, 3, 4), (7, 5, 3, 4)]
        net = Net(12, 8, spans)
        pairs = ((1, 0, 3, 2, 5, 4, 7, 6), True)
        self.assertEqual(folded(net, pairs)[0].spans, ((0, 1, 1, 2), (2, 3, 1, 3), (3, 2, 3, 4)))
        for times in (0, 1):
            self.assertEqual(unfolded(net, pairs, (0, 1, 0, 2), times), ("ring", ((2, True), (1, True))))
        crossed = Net(12, 8, spans[:4] + [(6, 5, 3, 4), (7, 4, 3, 4)])
        self.assertEqual(unfolded(crossed, pairs, (0, 1, 0, 2), 0)[0], "ring")
        told = unfolded(crossed, pairs, (3, 5, 1, 3), 1)
        self.assertEqual(told, ("timetable", (3, 9, 5, 11, 1, 7, 3, 9)))

    def test_the_first_ring(self):
        # Rings of one round and turn 1, of one round and turn 0, of two rounds and turn 0.
        spans = [(0, 2, 1, 2), (1, 3, 1, 2), (2, 1, 4, 5), (3, 0, 4, 5), (2, 0, 3, 4), (3, 1, 3, 4), (2, 0, 10, 11), (3, 1, 10, 11)]
        pairs = ((1, 0, 3, 2), True)
        turned, straight, twice = spans[2:4], spans[4:6], spans[6:]
        for behind, barring in [
            (turned, (0, None)), (straight, (0, 0)), (twice, (None, None)), (turned + straight, (0, 1)),
            (twice + straight, (1, 1)), (twice + turned, (1, None)), (straight + turned, (0, 0)),
            (twice + turned + straight, (1, 2)), (turned + twice, (0, None)),
        ]:
            net = Net(12, 4, spans[:2] + behind)
            rings = base(folded(net, pairs)[0])
            for times, at in enumerate(barring):
                told = unfolded(net, pairs, (0, 2), times)
                if at is None:
                    self.assertEqual(told, ("timetable", ((0, 0, 2, 2), (0, 6, 2, 8))[times]))
                else:
                    self.assertEqual(told, ("ring", rings[at]))

    def check(self, net, likeness, many, timetable):
        """Whether unfolded tells just what its words say, for all times; which kinds of answers it told."""
        told, turns = slow_fold(net, likeness, many)
        other = told[0]
        row = slow_lengths(other, timetable)
        kinds = set()
        for times in range(many):
            name, answer = unfolded(net, likeness, timetable, times)
            right = slow_unfolded(net, likeness, told, timetable, times)
            kinds.add(name)
            if name == "timetable":
                self.assertEqual([answer], right)
                self.assertTrue(is_even(net, [likeness], answer))
                shown = lengths(net, answer)
                firsts = slow_lists(len(net.spans), lambda index: slow_span_led(net, likeness, index))
                self.assertEqual(tuple([shown[alike[0]] for alike in firsts]), row)
                again = folds_to(net, likeness, answer)
                self.assertEqual(again[0], timetable)
                self.assertTrue(again[1] <= times)
                back = unfolded(net, likeness, again[0], again[1])
                self.assertIsNotNone(shift_between(net, back[1], answer))
            else:
                self.assertEqual(right, [])
                barring = []
                for ring in base(other):
                    turn = slow_sum(turns, ring)
                    if (slow_sum(row, ring) // other.beat - times * turn) % many != 0:
                        barring.append(ring)
                self.assertEqual(answer, barring[0])
        return kinds

    def test_by_trying_all_short_beats(self):
        chance = random.Random(121)
        seen = {}
        for _ in range(250):
            net, likeness, many = some_fold(chance)
            right = slow_fold(net, likeness, many)
            if right is not None:
                for timetable in chance.sample(slow_timetables(right[0][0]), 1) if slow_timetables(right[0][0]) else []:
                    for kind in self.check(net, likeness, many, timetable):
                        seen[(kind, many)] = seen.get((kind, many), 0) + 1
        self.assertEqual(sorted(seen), [(kind, many) for kind in ("ring", "timetable") for many in (2, 3, 4)])

    def test_parts_of_a_minute(self):
        for times in range(4):
            net, likeness = ladder(4, 48, 3, 13)
            one, other = Ratio(10 ** 40 - 1, 10 ** 39), Ratio(10 ** 40 - 7, 10 ** 39)
            name, told = unfolded(net, likeness, (one, other), times)
            self.assertEqual(name, "timetable")
            self.assertTrue(is_timetable(net, told))
            self.assertTrue(all([is_plain(moment) for moment in told]))
            self.assertEqual(told[2], (one + 12 * times).rest(48))
            self.assertEqual(lengths(net, told), (other + 12 - one,) * 4)
            self.assertEqual(folds_to(net, likeness, told), ((one, other), 0))

    def test_errors_in_order(self):
        for thing in [thing for thing, told in not_likenesses()] + things():
            self.assertEqual(error_of(unfolded, line(), thing, None, None), ("BadLikeness",))
        for likeness in (SAME, MIRROR, OTHER):
            self.assertEqual(error_of(unfolded, line(), likeness, None, None), ("NoFold",))
        net = Net(10, 2, ((0, 1, 1, 3), (1, 0, 1, 3)))
        self.assertEqual(error_of(unfolded, net, ((1, 0), True), None, None), ("Clash",))
        # Timetables of the net are none of the folded net.
        for thing in things() + [RIGHT, (0, 5), (0, 1), [0, 3], (3,), (0, 3, 5), (5, 0)]:
            self.assertEqual(error_of(unfolded, line(), ROUND, thing, None), ("BadTimetable",))
        for thing in things() + [2, 3, -2, HALF, Ratio(1, 1)]:
            error = error_of(unfolded, line(), ROUND, (0, 3), thing)
            self.assertEqual(error[0], "BadTimes")
            self.assertIs(error[1], thing)


class FoldsToTest(unittest.TestCase):

    def test_example(self):
        self.assertEqual(folds_to(line(), ROUND, RIGHT), ((0, 3), 1))
        self.assertEqual(folds_to(line(), ROUND, (7, 0, 2, 5)), ((2, 0), 1))
        told = folds_to(line(), ROUND, (HALF, Ratio(10, 3), HALF * 11, Ratio(25, 3)))
        self.assertEqual(told, ((HALF, Ratio(10, 3)), 1))
        self.assertEqual(folds_to(line(), ROUND, (Ratio(6, 1), 9, 1, Ratio(4, 1))), ((1, 4), 1))
        self.assertTrue(all([type(moment) is int for moment in folds_to(line(), ROUND, (Ratio(6, 1), 9, 1, 4))[0]]))

    def test_the_least_times(self):
        # Pieces that are exchanged hang together by no times: 0 does for all.
        net, likeness = ladder(4, 12, 1, 2)
        for moment in range(12):
            timetable = (0, 1, moment, (moment + 1) % 12, 3, 4, 5, 6)
            self.assertEqual(folds_to(net, likeness, timetable), ((0, 1), 0))
        # Two rings of four spans each, of one round and turn 1.
        spans = [(event, (event + 2) % 8, 3, 3) for event in range(8)]
        moved = tuple([(event + 4) % 8 for event in range(8)])
        net = Net(12, 8, spans)
        self.assertEqual(folding(net, (moved, True)), 2)
        self.assertEqual(folds_to(net, (moved, True), (0, 5, 3, 8, 6, 11, 9, 2)), ((0, 5, 3, 2), 1))

    def test_pieces_that_stand_otherwise(self):
        # The first events of the lists stand in unlike pieces, which may be any time apart.
        net = Net(10, 4, ((0, 3, 1, 2), (2, 1, 1, 2)))
        told = [folds_to(net, ROUND, (0, (at + 1) % 10, at, 1)) for at in range(10)]
        self.assertEqual(told, [((0, 1), 0), None, None, None, None, ((0, 1), 0), None, None, None, None])
        self.assertIsNone(folds_to(net, ROUND, (0, HALF, 9 + HALF, 1)))
        # By half a minute the timetable of the folded net has other lengths.
        told = folds_to(net, ROUND, (0, HALF * 3, HALF, 1))
        self.assertIsNone(told)

    def test_there_and_back(self):
        chance = random.Random(122)
        seen = {True: 0, False: 0}
        for _ in range(200):
            net, likeness, many = some_fold(chance)
            right = slow_fold(net, likeness, many)
            if right is None or net.beat ** net.events > 5000:
                continue
            rows = slow_timetables(net)
            evens = [moments for moments in rows if even_slowly(net, [likeness], slow_lengths(net, moments))]
            for timetable in chance.sample(evens, min(len(evens), 8)):
                self.check(net, likeness, right[0], timetable, seen)
        self.assertGreater(min(seen.values()), 20)

    def check(self, net, likeness, told, timetable, seen):
        """Whether folds_to tells what trying all times and short beats tells."""
        other, events, steps = told
        firsts = [events.index(number) for number in range(other.events)]
        moments = tuple([timetable[first] % other.beat for first in firsts])
        right = None
        if slow_lengths(other, moments) is not None:
            for times in range(net.beat // other.beat):
                made = slow_unfolded(net, likeness, told, moments, times)
                if made and slow_lengths(net, made[0]) == slow_lengths(net, timetable):
                    right = (moments, times)
                    break
        self.assertEqual(folds_to(net, likeness, timetable), right)
        later = folds_to(net, likeness, shifted(net, timetable, HALF))
        self.assertEqual(later is None, right is None)
        if right is not None:
            self.assertEqual(later, (shifted(other, moments, HALF), right[1]))
        seen[right is None] += 1

    def test_errors_in_order(self):
        for thing in [thing for thing, told in not_likenesses()] + things():
            self.assertEqual(error_of(folds_to, line(), thing, None), ("BadLikeness",))
        for likeness in (SAME, MIRROR, OTHER):
            self.assertEqual(error_of(folds_to, line(), likeness, None), ("NoFold",))
        net = Net(10, 2, ((0, 1, 1, 3), (1, 0, 1, 3)))
        self.assertEqual(error_of(folds_to, net, ((1, 0), True), None), ("Clash",))
        for thing in things() + [(0, 3, 7, 9), list(RIGHT), (0, 3)]:
            self.assertEqual(error_of(folds_to, line(), ROUND, thing), ("BadTimetable",))
        self.assertEqual(error_of(folds_to, line(), ROUND, (0, 2, 4, 8)), ("NotEven",))
        self.assertEqual(error_of(folds_to, line(), ROUND, (0, 2 + HALF, 5, 8)), ("NotEven",))

    def test_nothing_is_changed(self):
        net, likeness = line(), copy.deepcopy(ROUND)
        folded(net, likeness)
        unfolded(net, likeness, (0, 3), 1)
        folds_to(net, likeness, RIGHT)
        self.assertEqual((net, likeness), (line(), ROUND))


if __name__ == "__main__":
    unittest.main()
