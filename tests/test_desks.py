"""The desk: point 15.1."""

import copy
import random
import unittest

from likespans.desks import Desk
from likespans.errors import BadEvents, BadSpan, NothingDone, Refused, SpansError
from likespans.evening import even_islands
from likespans.islands import islands
from likespans.likes import is_likeness, likenesses
from likespans.nets import Net
from likespans.ratios import Ratio
from likespans.timetables import is_timetable, moments_fault
from tests.slow import alike_net, slow_lengths, slow_timetables
from tests.test_likes import MIRROR, OTHER, ROUND, SAME, not_likenesses
from tests.things import error_of, line, things

RIGHT = (0, 3, 5, 8)
SPANS = line().spans


def refused(call, *passed):
    """The class of the error that a refused deed keeps, and what that one keeps; None where nothing is refused."""
    try:
        call(*passed)
    except Refused as error:
        return (type(error.error).__name__,) + tuple(vars(error.error).values())
    return None


def history(desk):
    """The nets of a desk, from now back to its first one; the desk is as it was behind it."""
    def gone_back(same):
        found = [same.now()]
        while error_of(same.back) is None:
            found.append(same.now())
        return found
    return desk.trying(gone_back)


class DeedsTest(unittest.TestCase):

    def test_now(self):
        net = line()
        desk = Desk(net)
        self.assertEqual(desk.now(), net)
        self.assertEqual(history(desk), [net])

    def test_put(self):
        desk = Desk(line())
        self.assertIsNone(desk.put((0, 2, 1, 9)))
        self.assertEqual(desk.now(), Net(10, 4, SPANS + ((0, 2, 1, 9),)))
        desk.put((0, 2, 1, 8))
        self.assertEqual(desk.now().spans[4:], ((0, 2, 1, 9), (0, 2, 1, 8)))
        desk = Desk(Net(10, 2, ()))
        for low in range(60):
            desk.put((0, 1, low, low))
        self.assertEqual(refused(desk.put, (0, 1, 60, 60)), ("BadSpan", -1))
        self.assertEqual(refused(desk.put, None), ("BadSpan", -1))
        self.assertEqual(len(history(desk)), 61)

    def test_put_refused(self):
        desk = Desk(line())
        for span in things() + [
            SPANS[0], SPANS[3], [0, 2, 1, 9], (0, 2, 1, 10), (0, 4, 1, 2), (4, 0, 1, 2), (0, 0, 1, 2), (0, 2, 3, 2), (0, 2, -1, 2), (0, 2, 1),
            (0, 2, 1, 2, 3), (0, 2, 2872, 2881), (0, True, 1, 2), (0, 2, 1, Ratio(2, 1)), (0, 2, None, 2),
        ]:
            self.assertEqual(refused(desk.put, span), ("BadSpan", 4))
            self.assertEqual(desk.now(), line())
        self.assertEqual(error_of(desk.back), ("NothingDone",))

    def test_strike(self):
        for index in range(4):
            desk = Desk(line())
            self.assertIsNone(desk.strike(index))
            self.assertEqual(desk.now(), Net(10, 4, SPANS[:index] + SPANS[index + 1:]))
        for _ in range(3):
            desk.strike(0)
        self.assertEqual(desk.now(), Net(10, 4, ()))
        self.assertEqual(error_of(desk.strike, 0), ("NoSpan", 0))

    def test_bounds(self):
        desk = Desk(line())
        self.assertIsNone(desk.bounds(2, 0, 8))
        self.assertEqual(desk.now(), Net(10, 4, SPANS[:2] + ((2, 3, 0, 8),) + SPANS[3:]))
        desk.bounds(2, 2, 4)
        self.assertEqual(desk.now(), line())
        # The same bounds once more are a deed, too.
        desk.bounds(2, 2, 4)
        self.assertEqual(len(history(desk)), 4)
        for low, high in [
            (0, 9), (3, 2), (-1, 2), (2880, 2881), (None, 4), (2, None), (True, 4), (2, True), (Ratio(2, 1), 4), ("2", 4), ([2], [4]),
        ]:
            self.assertEqual(refused(desk.bounds, 1, low, high), ("BadSpan", 1))
        for thing in things():
            self.assertEqual(refused(desk.bounds, 0, thing, thing), ("BadSpan", 0))
        # A span like one that stands ahead, or behind: the second of both is told.
        desk = Desk(Net(10, 2, ((0, 1, 1, 2), (1, 0, 1, 2), (0, 1, 3, 4))))
        self.assertEqual(refused(desk.bounds, 2, 1, 2), ("BadSpan", 2))
        self.assertEqual(refused(desk.bounds, 0, 3, 4), ("BadSpan", 2))
        self.assertIsNone(refused(desk.bounds, 1, 3, 4))

    def test_no_span(self):
        desk = Desk(line())
        for thing in things() + [4, 60, -1, True, None, Ratio(2, 1)]:
            for call, passed in [(desk.strike, ()), (desk.bounds, (1, 2)), (desk.bounds, (None, [])), (desk.bounds, (9, 1))]:
                error = error_of(call, thing, *passed)
                self.assertEqual(error[0], "NoSpan")
                self.assertIs(error[1], thing)
        self.assertEqual(history(desk), [line()])

    def test_with_events(self):
        desk = Desk(line())
        for many in (5, 24, 4, 4):
            self.assertIsNone(desk.with_events(many))
            self.assertEqual(desk.now(), Net(10, many, SPANS))
        self.assertEqual(len(history(desk)), 5)
        for many in (3, 2, 1):
            # The first span that has an event that there would be no more.
            self.assertEqual(refused(desk.with_events, many), ("BadSpan", many - 1))
        for thing in things() + [0, 25, -4, None, True, Ratio(4, 1)]:
            try:
                desk.with_events(thing)
                self.fail(thing)
            except Refused as error:
                self.assertIs(type(error.error), BadEvents)
                self.assertIs(error.error.events, thing)
        self.assertEqual(len(history(desk)), 5)

    def test_what_is_refused_is_what_net_raises(self):
        chance = random.Random(150)
        seen = {}
        for _ in range(300):
            net = alike_net(chance)[0]
            desk = Desk(net)
            span = (chance.randint(-1, 4), chance.randint(0, 4), chance.randint(0, 5), chance.randint(0, 9))
            index = chance.randrange(len(net.spans))
            many = chance.randint(0, 25)
            for deed, passed, made in [
                (desk.put, (span,), (net.events, net.spans + (span,))), (desk.with_events, (many,), (many, net.spans)),
                (desk.strike, (index,), (net.events, net.spans[:index] + net.spans[index + 1:])),
                (desk.bounds, (index,) + span[2:], (net.events, net.spans[:index] + (net.spans[index][:2] + span[2:],) + net.spans[index + 1:])),
            ]:
                right = error_of(Net, net.beat, *made)
                self.assertEqual(refused(deed, *passed), right)
                self.assertEqual(desk.now(), net if right else Net(net.beat, *made))
                if right is None:
                    desk.back()
                seen[(deed.__name__, right and right[0])] = True
        self.assertEqual(len(seen), 8)

    def test_refused_is_raised(self):
        desk = Desk(line())
        self.assertRaises(SpansError, desk.put, None)
        with self.assertRaises(Refused) as caught:
            desk.put(None)
        self.assertIs(type(caught.exception.error), BadSpan)
        self.assertEqual(caught.exception.error.index, 4)


class BackTest(unittest.TestCase):

    def test_back_through_all(self):
        desk = Desk(line())
        nets = [desk.now()]
        for deed in [
            lambda: desk.put((0, 2, 1, 9)), lambda: desk.bounds(0, 0, 8), lambda: desk.strike(1), lambda: desk.with_events(7),
            lambda: desk.put((6, 0, 1, 1)), lambda: desk.strike(4), lambda: desk.with_events(4),
        ]:
            deed()
            nets.append(desk.now())
            self.assertIsNotNone(refused(desk.put, desk.now().spans[0]))
            self.assertIsNotNone(refused(desk.with_events, 0))
            self.assertEqual(error_of(desk.strike, 60), ("NoSpan", 60))
        self.assertEqual(history(desk), nets[::-1])
        while len(nets) > 1:
            self.assertEqual(desk.now(), nets.pop())
            self.assertIsNone(desk.back())
        self.assertEqual(desk.now(), line())
        for _ in range(2):
            self.assertEqual(error_of(desk.back), ("NothingDone",))
            self.assertEqual(desk.now(), line())
        desk.put((0, 2, 1, 9))
        self.assertIsNone(desk.back())
        self.assertEqual(error_of(desk.back), ("NothingDone",))

    def test_desks_beside_one_another(self):
        net = line()
        one, other = Desk(net), Desk(net)
        one.put((0, 2, 1, 9))
        kept = one.now()
        self.assertEqual((other.now(), net), (line(), line()))
        other.strike(0)
        one.strike(0)
        one.with_events(9)
        self.assertEqual(kept, Net(10, 4, SPANS + ((0, 2, 1, 9),)))
        self.assertEqual(other.now(), Net(10, 4, SPANS[1:]))
        other.back()
        self.assertEqual(error_of(other.back), ("NothingDone",))
        self.assertEqual(len(history(one)), 4)
        self.assertFalse(one == other)
        for thing in things():
            self.assertFalse(one == thing)

    def test_many_deeds(self):
        desk = Desk(line())
        for _ in range(3000):
            desk.put((0, 2, 1, 9))
            desk.strike(4)
        self.assertEqual(desk.trying(lambda same: same.trying(lambda again: again.now())), line())
        for _ in range(6000):
            desk.back()
        self.assertEqual(error_of(desk.back), ("NothingDone",))


class AskedTest(unittest.TestCase):

    def test_islands_and_even_ones(self):
        desk = Desk(line())
        self.assertEqual((desk.islands(), desk.even([ROUND])), ([(1,)], [(1,)]))
        desk.bounds(0, 2, 10)
        self.assertEqual(desk.islands(), [(1,), (2,)])
        self.assertEqual(error_of(desk.even, [ROUND]), ("BadLot", 0))
        self.assertEqual(desk.even([MIRROR]), [(1,), (2,)])
        desk.strike(0)
        self.assertEqual(desk.islands(), [()])
        desk.put((0, 1, 12, 14))
        self.assertEqual(desk.islands(), [(2,)])
        desk.put((0, 1, 10, 10))
        self.assertEqual(desk.islands(), [])
        self.assertEqual(desk.even([]), [])
        desk.islands().append((1,))
        self.assertEqual(desk.islands(), [])

    def test_against_the_nets_of_now(self):
        chance = random.Random(151)
        for _ in range(60):
            net, lot = alike_net(chance)
            desk = Desk(net)
            for _ in range(4):
                self.assertEqual(desk.islands(), islands(desk.now()))
                if len(desk.now().spans) == 0:
                    break
                every = likenesses(desk.now())
                some = chance.sample(every, min(len(every), 2))
                self.assertEqual(desk.even(some), even_islands(desk.now(), some))
                desk.strike(chance.randrange(len(desk.now().spans)))

    def test_even_errors(self):
        desk = Desk(line())
        for thing in things() + [[MIRROR] * 7]:
            if thing not in ([], ()):
                self.assertEqual(error_of(desk.even, thing)[0], "BadLot")
        self.assertEqual(error_of(desk.even, None), ("BadLot", -1))
        self.assertEqual(error_of(desk.even, [SAME, MIRROR, 1]), ("BadLot", 2))
        bare = Desk(Net(10, 24, ()))
        turn = (tuple([(event + 1) % 24 for event in range(24)]), True)
        self.assertEqual(error_of(bare.even, [turn, ((1, 0) + tuple(range(2, 24)), True)]), ("TooMany", 48))


class StillTest(unittest.TestCase):

    def test_each_deed(self):
        desk = Desk(line())
        desk.put((0, 2, 6, 9))
        self.assertEqual(desk.still(RIGHT), 4)
        self.assertIsNone(desk.still((0, 4, 6, 9)))
        # Now the net ahead has the span that was put.
        desk.bounds(0, 4, 4)
        self.assertEqual(error_of(desk.still, RIGHT), ("BadTimetable",))
        self.assertIsNone(desk.still((0, 4, 6, 9)))
        self.assertEqual(desk.still((0, 3, 6, 9)), 0)
        desk.back()
        self.assertEqual(desk.still(RIGHT), 4)
        desk.strike(4)
        self.assertEqual(error_of(desk.still, RIGHT), ("BadTimetable",))
        self.assertIsNone(desk.still((0, 4, 6, 9)))
        desk.with_events(4)
        self.assertIsNone(desk.still(RIGHT))
        desk.with_events(5)
        self.assertEqual(error_of(desk.still, RIGHT), ("OtherEvents",))
        self.assertEqual(error_of(desk.still, RIGHT + (0,)), ("BadTimetable",))
        desk.with_events(4)
        self.assertEqual(error_of(desk.still, RIGHT), ("BadTimetable",))
        self.assertEqual(error_of(desk.still, RIGHT + (0,)), ("OtherEvents",))
        desk.bounds(1, 1, 1)
        self.assertEqual(desk.still((Ratio(0, 1), 3, Ratio(11, 2), 8)), 1)

    def test_the_first_span_of_now(self):
        # Behind a span that is struck the others have other numbers.
        desk = Desk(line())
        desk.bounds(3, 3, 3)
        desk.bounds(2, 4, 4)
        self.assertEqual(desk.still((0, 2, 3, 7)), None)
        self.assertEqual(desk.still((0, 3, 5, 7)), 2)
        desk.strike(0)
        self.assertIsNone(desk.still((0, 2, 3, 7)))

    def test_against_all_timetables(self):
        chance = random.Random(152)
        seen = {}
        for _ in range(150):
            net = alike_net(chance)[0]
            desk = Desk(net)
            index = chance.randrange(len(net.spans))
            i, j, low, high = net.spans[index]
            at = chance.randint(low, high)
            if chance.random() < 0.5:
                error_of(desk.bounds, index, at, at)
            else:
                error_of(desk.put, (i, j, at, at))
            if desk.now() == net:
                continue
            for moments in chance.sample(slow_timetables(net), min(10, len(slow_timetables(net)))):
                fault = moments_fault(desk.now(), moments)
                self.assertEqual(desk.still(moments), None if fault is None else fault[1])
                self.assertEqual(desk.still(moments) is None, slow_lengths(desk.now(), moments) is not None)
                seen[fault is None] = True
        self.assertEqual(len(seen), 2)

    def test_errors_in_order(self):
        desk = Desk(line())
        for thing in things() + [RIGHT]:
            self.assertEqual(error_of(desk.still, thing), ("NothingDone",))
        desk.with_events(9)
        for thing in things() + [(0, 3, 7, 9), list(RIGHT)]:
            self.assertEqual(error_of(desk.still, thing), ("BadTimetable",))
        self.assertEqual(error_of(desk.still, RIGHT), ("OtherEvents",))
        desk.back()
        self.assertEqual(error_of(desk.still, RIGHT), ("NothingDone",))
        # A timetable of the net of now that is none of the net ahead.
        desk.bounds(0, 5, 5)
        self.assertTrue(is_timetable(desk.now(), (0, 5, 7, 9)))
        self.assertEqual(error_of(desk.still, (0, 5, 7, 9)), ("BadTimetable",))


class LostTest(unittest.TestCase):

    def test_each_deed(self):
        lot = [SAME, MIRROR, ROUND, OTHER]
        desk = Desk(line())
        desk.bounds(0, 2, 5)
        self.assertEqual(desk.lost(lot), [2, 3])
        self.assertEqual(desk.lost(lot[::-1]), [0, 1])
        self.assertEqual(desk.lost(tuple(lot[:2])), [])
        self.assertEqual(desk.lost([ROUND] * 6), [0, 1, 2, 3, 4, 5])
        self.assertEqual(desk.lost([]), [])
        desk.bounds(2, 2, 5)
        # The ones that were lost are none of the net ahead.
        self.assertEqual(error_of(desk.lost, lot), ("BadLot", 2))
        self.assertEqual(desk.lost(lot[:2]), [])
        desk.with_events(5)
        self.assertEqual(desk.lost(lot), [0, 1, 2, 3])
        self.assertEqual(error_of(desk.lost, [(SAME[0] + (4,), True)]), ("BadLot", 0))
        desk.back()
        desk.strike(1)
        self.assertEqual(desk.lost(lot), [1, 2])
        desk.back()
        desk.back()
        self.assertEqual(desk.lost(lot), [2, 3])
        self.assertIsNot(desk.lost(lot), desk.lost(lot))

    def test_no_group_is_asked_for(self):
        desk = Desk(Net(10, 24, ()))
        turn = (tuple([(event + 1) % 24 for event in range(24)]), True)
        swap = ((1, 0) + tuple(range(2, 24)), True)
        desk.put((0, 1, 2, 3))
        self.assertEqual(desk.lost([turn, swap]), [0, 1])

    def test_against_all_likenesses(self):
        chance = random.Random(153)
        for _ in range(100):
            net, lot = alike_net(chance)
            desk = Desk(net)
            lot = lot + [(tuple(range(net.events)), True)]
            desk.strike(chance.randrange(len(net.spans)))
            self.assertEqual(desk.lost(lot), [at for at, likeness in enumerate(lot) if not is_likeness(desk.now(), likeness)])

    def test_errors_in_order(self):
        desk = Desk(line())
        for thing in things() + [[SAME]]:
            self.assertEqual(error_of(desk.lost, thing), ("NothingDone",))
        desk.with_events(9)
        for thing in things() + [[SAME] * 7, [SAME] * 6 + [None], {0: SAME}, "lot"]:
            if thing not in ([], ()):
                right = isinstance(thing, (list, tuple)) and len(thing) <= 6
                self.assertEqual(error_of(desk.lost, thing), ("BadLot", 0 if right else -1))
        for thing, told in not_likenesses():
            self.assertEqual(error_of(desk.lost, [MIRROR, thing, None]), ("BadLot", 1))


class TryingTest(unittest.TestCase):

    def setUp(self):
        self.desk = Desk(line())
        self.desk.put((0, 2, 1, 9))
        self.desk.strike(0)
        self.nets = history(self.desk)

    def check(self):
        """Whether the desk is as it was, with all deeds still to be undone one by one."""
        self.assertEqual(history(self.desk), self.nets)
        self.assertEqual(self.desk.now(), self.nets[0])
        again = copy.deepcopy(self.desk)
        for net in self.nets[1:]:
            again.back()
            self.assertEqual(again.now(), net)
        self.assertEqual(error_of(again.back), ("NothingDone",))

    def test_what_is_returned(self):
        for thing in things():
            self.assertIs(self.desk.trying(lambda desk: thing), thing)
        self.assertIs(self.desk.trying(lambda desk: desk), self.desk)
        self.assertIsNone(self.desk.trying(lambda desk: desk.with_events(9)))
        self.check()

    def test_deeds(self):
        def deed(desk):
            desk.with_events(7)
            desk.put((6, 0, 1, 2))
            self.assertIsNotNone(refused(desk.put, (6, 0, 1, 2)))
            desk.bounds(0, 1, 1)
            desk.strike(1)
            self.assertEqual(len(history(desk)), 7)
            return desk.now()
        told = self.desk.trying(deed)
        self.assertEqual(told, Net(10, 7, ((1, 2, 1, 1), (3, 0, 1, 3), (0, 2, 1, 9), (6, 0, 1, 2))))
        self.check()
        self.assertIsNone(self.desk.still((0, 3, 5, 8)))

    def test_back_beyond_the_begin(self):
        def deed(desk):
            desk.put((0, 3, 1, 1))
            for _ in range(3):
                desk.back()
            self.assertEqual(error_of(desk.back), ("NothingDone",))
            desk.with_events(9)
            self.assertEqual(len(history(desk)), 2)
            return desk.now()
        self.assertEqual(self.desk.trying(deed), Net(10, 9, SPANS))
        self.check()

    def test_errors_go_on(self):
        class Own(Exception):
            pass

        def deed(error):
            def inner(desk):
                desk.back()
                desk.with_events(9)
                raise error
            return inner
        for error in (Own("x"), NothingDone(), KeyError(1), KeyboardInterrupt(), SpansError()):
            with self.assertRaises(type(error)) as caught:
                self.desk.trying(deed(error))
            self.assertIs(caught.exception, error)
            self.check()
        # Errors that the desk itself raises.
        self.assertEqual(error_of(self.desk.trying, lambda desk: desk.strike(99)), ("NoSpan", 99))
        self.assertEqual(error_of(self.desk.trying, lambda desk: desk.put(None))[0], "Refused")
        self.check()

        def beyond(desk):
            while True:
                desk.back()
        self.assertEqual(error_of(self.desk.trying, beyond), ("NothingDone",))
        self.check()

    def test_trials_within_trials(self):
        def inner(desk):
            desk.back()
            desk.back()
            desk.with_events(8)
            return len(history(desk))

        def failing(desk):
            desk.back()
            desk.put(None)

        def deed(desk):
            desk.with_events(6)
            nets = history(desk)
            self.assertEqual(desk.trying(inner), 3)
            self.assertEqual(history(desk), nets)
            self.assertEqual(error_of(desk.trying, failing)[0], "Refused")
            self.assertEqual(history(desk), nets)
            desk.back()
            self.assertEqual(desk.trying(lambda same: same.trying(lambda again: again.trying(inner))), 2)
            self.assertEqual(history(desk), nets[1:])
            return desk.still((0, 3, 5, 8))
        self.assertIsNone(self.desk.trying(deed))
        self.check()

    def test_a_deed_on_another_desk(self):
        other = Desk(line())
        self.desk.trying(lambda desk: other.strike(0))
        self.check()
        self.assertEqual(other.now().spans, SPANS[1:])


if __name__ == "__main__":
    unittest.main()
