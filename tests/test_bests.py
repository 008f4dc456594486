"""Best timetables by prices: points 11.2 to 11.6."""

import copy
import random
import time
import unittest

from likespans.bests import best, best_even, best_of_all, better_move, evenness_costs, is_best
from likespans.evening import even_islands, evened, is_even
from likespans.islands import island_of, islands, leader
from likespans.moving import moved
from likespans.nets import Net, pieces
from likespans.prices import cost
from likespans.ratios import Ratio
from likespans.timetables import lengths, shifted
from tests.slow import alike_net, bent_row, slow_bests, slow_lengths, slow_timetables, some_net, some_prices
from tests.test_evening import all_spoiled
from tests.test_images import three
from tests.test_likes import MIRROR, OTHER, ROUND, not_likenesses, turned, wheel
from tests.test_prices import faulty_rows
from tests.things import error_of, fraction, is_plain, line, things

HALF = Ratio(1, 2)
RIGHT = (0, 3, 5, 8)
PRICES = ((0, 1, 2), (4, 2, 1), (0, 1, 2), (4, 2, 1))
BARRED = Net(10, 2, ((0, 1, 1, 1), (1, 0, 1, 1)))
MOST = 10 ** 9


def are_right_pulls(net, prices, row, pulls):
    """Whether pulls have equal sums at each event and fit the steps at these lengths."""
    for event in range(net.events):
        coming = sum([pull for span, pull in zip(net.spans, pulls) if span[1] == event])
        going = sum([pull for span, pull in zip(net.spans, pulls) if span[0] == event])
        if coming != going:
            return False
    for (i, j, low, high), costs, number, pull in zip(net.spans, prices, row, pulls):
        price = {low + at: costs[at] for at in range(len(costs))}
        if number + 1 in price and pull > price[number + 1] - price[number]:
            return False
        if number - 1 in price and pull < price[number] - price[number - 1]:
            return False
    return len(pulls) == len(net.spans)


def samples(seed, many, most):
    """Nets made by chance, with likenesses, and prices of some, which are or are not alike."""
    chance = random.Random(seed)
    found = []
    for _ in range(many):
        net, lot = alike_net(chance) if chance.random() < 0.7 else (some_net(chance), [])
        found.append((net, lot, some_prices(chance, net, lot, most)))
    return found


class BestTest(unittest.TestCase):

    def check(self, net, prices, island, told):
        """Whether what best tells is right, whatever it costs."""
        number, timetable, pulls = told
        self.assertIsInstance(told, tuple)
        self.assertIsInstance(pulls, tuple)
        row = slow_lengths(net, timetable)
        self.assertEqual((island_of(net, timetable), cost(net, prices, timetable)), (island, number))
        self.assertTrue(all([isinstance(moment, int) for moment in timetable + pulls]))
        self.assertTrue(are_right_pulls(net, prices, row, pulls))
        self.assertIs(is_best(net, prices, island, told), True)

    def test_examples(self):
        number, timetable, pulls = best(line(), PRICES, (1,))
        self.assertEqual((number, lengths(line(), timetable)), (2, (2, 3, 2, 3)))
        self.check(line(), PRICES, (1,), best(line(), list(PRICES), (1,)))
        steep = ((0, 0, 5), (9, 3, 0), (0, 2, 4), (-3, -3, -3))
        self.check(line(), steep, (1,), best(line(), steep, (1,)))
        # Lengths that sum to 10, within 2 to 4, 1 to 3, 2 to 4 and 1 to 3.
        self.assertEqual(best(line(), steep, (1,))[0], min([
            steep[0][a - 2] + steep[1][b - 1] + steep[2][c - 2] + steep[3][9 - a - b - c]
            for a in (2, 3, 4) for b in (1, 2, 3) for c in (2, 3, 4) if 1 <= 10 - a - b - c <= 3
        ]))
        self.assertEqual(best(Net(5, 3, ()), (), ())[::2], (0, ()))
        self.assertEqual(best(Net(5, 2, ((0, 1, 3, 3),)), ((-7,),), ())[::2], (-7, (0,)))
        self.assertEqual(best(Net(5, 2, ((0, 1, 3, 6),)), ((5, 1, 1, 2),), ())[0], 1)

    def test_against_all_whole_timetables(self):
        for most in (2, 9, MOST // 20):
            for net, lot, prices in samples(121 + most % 7, 120, most):
                least = slow_bests(net, prices)
                self.assertEqual(sorted(least), islands(net))
                for island in islands(net):
                    told = best(net, prices, island)
                    self.assertEqual(told[0], least[island])
                    self.check(net, prices, island, told)

    def test_is_best_with_other_ones(self):
        flat = ((1, 1, 1),) * 4
        for moments in [(0, 2, 5, 7), (3, 5, 8, 0), (0, 4, 5, 8), RIGHT]:
            for pulls, told in [((0, 0, 0, 0), True), ((1, 1, 1, 1), False), ((0, 0, 0, 1), False)]:
                self.assertIs(is_best(line(), flat, (1,), (4, moments, pulls)), told)
        as_ratios = tuple([Ratio(moment, 1) for moment in (0, 2, 5, 7)])
        self.assertIs(is_best(line(), flat, (1,), (Ratio(4, 1), as_ratios, (0, 0, 0, 0))), True)
        self.assertIs(is_best(line(), flat, (1,), (4, (0, HALF + 2, 5, 7), (0, 0, 0, 0))), False)
        # At a low or a high no step bounds the pull.
        net = Net(10, 2, ((0, 1, 2, 4), (1, 0, 6, 8)))
        prices = ((0, 3, 6), (0, 1, 2))
        for pull, told in [(1, False), (2, True), (3, True), (0, False), (-50, False), (4, False), (10 ** 30, False)]:
            self.assertIs(is_best(net, ((0, 3, 6), (0, 2, 5)), (1,), (5, (0, 2), (pull, pull))), told and pull >= 3)
        for pull, told in [(1, True), (2, True), (3, True), (0, False), (4, False)]:
            self.assertIs(is_best(net, prices, (1,), (2, (0, 2), (pull, pull))), told)
        self.assertIs(is_best(net, prices, (1,), (4, (0, 3), (1, 1))), False)
        fixed = Net(10, 2, ((0, 1, 2, 2), (1, 0, 8, 8)))
        for pull in (0, 7, -10 ** 39):
            self.assertIs(is_best(fixed, ((3,), (4,)), (1,), (7, (5, 7), (pull, pull))), True)

    def test_is_best_clause_by_clause(self):
        for net, prices, island in [
            (line(), PRICES, (1,)), (three(), ((3, 1, 0, 0, 2), (5, 2, 1, 1, 1), (0, 1, 2, 3, 4), (9, 5, 4, 3, 3)), (1, 0, 2)),
        ]:
            right = best(net, prices, island)
            self.assertIs(is_best(net, prices, island, right), True)
            number, timetable, pulls = right
            for thing in things() + [thing for thing in all_spoiled(right) if not self.fits(net, prices, island, thing)]:
                with self.subTest(thing=thing):
                    self.assertIs(is_best(net, prices, island, thing), False)
            for thing in things():
                self.assertIs(is_best(net, prices, island, (thing, timetable, pulls)), False)
                self.assertIs(is_best(net, prices, island, (number, thing, pulls)), False)
                self.assertIs(is_best(net, prices, island, (number, timetable, thing)), False)
            self.assertIs(is_best(net, prices, island, (number + 1, timetable, pulls)), False)
            self.assertIs(is_best(net, prices, island, (number, timetable, list(pulls))), False)
            self.assertIs(is_best(net, prices, island, (number, timetable, tuple([Ratio(pull, 1) for pull in pulls]))), False)
        self.assertIs(is_best(Net(5, 1, ()), (), (), (0, (0,), ())), True)
        self.assertIs(is_best(Net(5, 1, ()), (), (), (False, (0,), ())), False)
        self.assertIs(is_best(Net(5, 1, ()), (), (), (0, (False,), ())), False)
        flat = ((1, 1, 1),) * 4
        self.assertIs(is_best(line(), flat, (1,), (4, RIGHT, (0, 0, 0, False))), False)

    def fits(self, net, prices, island, thing):
        """Whether a spoiled thing is right all the same."""
        if not isinstance(thing, tuple) or len(thing) != 3 or not all([isinstance(part, tuple) for part in thing[1:]]):
            return False
        if not all([type(part) is int for part in thing[1] + thing[2]]) or len(thing[2]) != len(net.spans):
            return False
        if len(thing[1]) != net.events or not all([0 <= moment < net.beat for moment in thing[1]]):
            return False
        row = slow_lengths(net, thing[1])
        if row is None or island_of(net, thing[1]) != island or type(thing[0]) is not int:
            return False
        return cost(net, prices, thing[1]) == thing[0] and are_right_pulls(net, prices, row, thing[2])

    def test_a_timetable_of_another_island(self):
        prices = ((0,) * 5,) * 4
        for island, moments in [((1, 0, 1), (0, 3)), ((1, 0, 2), (0, 5)), ((1, 1, 1), (0, 1))]:
            for other in islands(three()):
                told = (0, moments, (0, 0, 0, 0))
                self.assertIs(is_best(three(), prices, other, told), island == other)

    def test_soon_at_the_limits(self):
        began = time.monotonic()
        chance = random.Random(122)
        for beat, events, many in [(1440, 2, 2), (1440, 4, 7), (60, 6, 12), (60, 6, 13), (1440, 24, 30), (1440, 24, 60)]:
            moments = [chance.randrange(beat) for _ in range(events)]
            spans = [(event, (event + 1) % events) for event in range(events)]
            spans = spans + [tuple(chance.sample(range(events), 2)) for _ in range(many - events)]
            found = []
            for at, (i, j) in enumerate(spans):
                number = (moments[j] - moments[i]) % beat
                low = max(0, number - chance.randint(0, beat - 2))
                found.append((i, j, low, low + beat - 2))
            net = Net(beat, events, list(dict.fromkeys(found)))
            for most in (1, MOST // beat):
                prices = [bent_row(chance, beat - 1, most) for _ in net.spans]
                island = island_of(net, tuple(moments))
                self.check(net, prices, island, best(net, prices, island))
        self.assertLess(time.monotonic() - began, 10)

    def test_steep_and_level_prices(self):
        for width in (10, 500, 1438):
            net = Net(1440, 3, ((0, 1, 0, width), (1, 2, 0, width), (0, 2, 10, 10 + width)))
            self.assertIn((0,), islands(net))
            for prices in [
                [(0,) * (width + 1)] * 3, [(MOST,) * (width + 1)] * 3, [tuple(range(width + 1))] * 3,
                [tuple([abs(at - 7) * (MOST // 1440) for at in range(width + 1)])] * 3,
                [(MOST,) + (-MOST,) * width] * 3, [(-MOST,) * width + (MOST,)] * 3,
                [(MOST,) + (-MOST,) * width, (0,) * (width + 1), (-MOST,) * width + (MOST,)],
            ]:
                for island in islands(net):
                    self.check(net, prices, island, best(net, prices, island))

    def test_errors(self):
        for thing in faulty_rows() + things():
            row = [PRICES[0], thing, None, None]
            self.assertEqual(error_of(best, line(), row, None), ("BadPrices", 1))
            self.assertEqual(error_of(better_move, line(), row, None), ("BadPrices", 1))
            self.assertEqual(error_of(best_of_all, line(), row), ("BadPrices", 1))
        for thing in things():
            if not isinstance(thing, (list, tuple)):
                self.assertEqual(error_of(best, line(), thing, None), ("BadPrices", -1))
            if thing != (0,):
                self.assertEqual(error_of(best, line(), PRICES, thing), ("BadIsland", -1))
        for row in [(0,), (2,), (-10 ** 40,)]:
            self.assertEqual(error_of(best, line(), PRICES, row), ("BadIsland", -2))


class BetterTest(unittest.TestCase):

    def test_examples(self):
        self.assertIsNone(better_move(line(), PRICES, (0, 2, 5, 7)))
        self.assertIsNone(better_move(line(), PRICES, (9, 1, 4, 6)))
        move = better_move(line(), PRICES, RIGHT)
        self.assertLess(cost(line(), PRICES, moved(line(), RIGHT, move)), 6)
        self.assertIsNone(better_move(Net(5, 2, ()), [], (0, 3)))
        as_ratios = tuple([Ratio(moment, 1) for moment in RIGHT])
        self.assertEqual(better_move(line(), PRICES, as_ratios), move)
        # Where no event alone can be moved with gain, a block can.
        net = Net(10, 3, ((0, 1, 1, 5), (0, 2, 1, 5), (1, 2, 6, 14)))
        prices = ((0, 1, 2, 3, 4), (0, 1, 2, 3, 4), tuple([9 * abs(at - 4) for at in range(9)]))
        move = better_move(net, prices, (0, 3, 3))
        self.assertIn((set(move[0]), move[1]), [({1, 2}, -1), ({0}, 1)])

    def test_walked_until_none(self):
        steps = 0
        for net, lot, prices in samples(123, 150, 9):
            least = slow_bests(net, prices)
            chance = random.Random(net.beat)
            rows = slow_timetables(net)
            for moments in chance.sample(rows, min(3, len(rows))):
                island = island_of(net, moments)
                while (move := better_move(net, prices, moments)) is not None:
                    other = moved(net, moments, move)
                    self.assertLess(cost(net, prices, other), cost(net, prices, moments))
                    self.assertEqual(island_of(net, other), island)
                    moments = other
                    steps += 1
                self.assertEqual(cost(net, prices, moments), least[island])
        self.assertGreater(steps, 80)

    def test_none_exactly_at_the_least_cost(self):
        for net, lot, prices in samples(124, 60, 3):
            least = slow_bests(net, prices)
            for moments in slow_timetables(net)[:60]:
                right = cost(net, prices, moments) == least[island_of(net, moments)]
                self.assertIs(better_move(net, prices, moments) is None, right)

    def test_errors(self):
        for thing in things() + [(0, 3, 7, 9), (0, HALF + 2, 5, 8), shifted(line(), RIGHT, HALF), list(RIGHT)]:
            self.assertEqual(error_of(better_move, line(), PRICES, thing), ("BadTimetable",))


class OfAllTest(unittest.TestCase):

    def test_examples(self):
        self.assertEqual(best_of_all(line(), PRICES), (2, (1,)))
        flat = ((0,) * 5,) * 4
        self.assertEqual(best_of_all(three(), flat), (0, (1, 0, 1)))
        # Lengths 3, 3, 3, 3 in the first island; 5, 1, 5, 7 and 1, 5, 7, 5 in the other two.
        last = (tuple(range(5)), (0,) * 5, (0,) * 5, (0,) * 5)
        self.assertEqual(best_of_all(three(), last), (0, (1, 1, 1)))
        long = ((0, -1, -2, -3, -4), (0,) * 5, (0,) * 5, (0,) * 5)
        self.assertEqual(best_of_all(three(), long), (-4, (1, 0, 2)))
        both = ((0, 0, 0, 1, 2), (0, 0, 0, 1, 2), (2, 1, 0, 0, 0), (0,) * 5)
        self.assertEqual(best_of_all(three(), both), (2, (1, 0, 1)))
        mid = ((2, 1, 1, 1, 1), (0,) * 5, (5, 4, 3, 2, 1), (9, 6, 3, 0, 0))
        self.assertEqual(best_of_all(three(), mid), (4, (1, 0, 2)))
        self.assertEqual(best_of_all(Net(5, 2, ()), ()), (0, ()))

    def test_against_all_whole_timetables(self):
        several = 0
        for most in (1, 4, MOST // 20):
            for net, lot, prices in samples(125 + most % 7, 200, most):
                least = slow_bests(net, prices)
                if not least:
                    self.assertEqual(error_of(best_of_all, net, prices), ("NoTimetable",))
                    continue
                several += len(least) > 1
                number = min(least.values())
                self.assertEqual(best_of_all(net, prices), (number, min([row for row in least if least[row] == number])))
        self.assertGreater(several, 40)

    def test_errors(self):
        self.assertEqual(error_of(best_of_all, BARRED, ((0,), (0,))), ("NoTimetable",))
        self.assertEqual(error_of(best_of_all, BARRED, ((0,),)), ("BadPrices", -1))

    def test_soon_with_many_islands(self):
        began = time.monotonic()
        chance = random.Random(126)
        spans = []
        for at in range(0, 21, 3):
            spans = spans + [(at, at + 1, 0, 8), (at + 1, at + 2, 0, 8), (at + 2, at, 0, 8)]
        net = Net(10, 21, spans)
        self.assertEqual(len(islands(net)), 3 ** 7)
        for most in (0, 1, 100):
            prices = [bent_row(chance, 9, most) for _ in spans]
            number, island = best_of_all(net, prices)
            # The rings have nothing to do with each other.
            least = 0
            rows = ()
            for at in range(7):
                ring = Net(10, 3, spans[:3])
                part = best_of_all(ring, prices[3 * at:3 * at + 3])
                least += part[0]
                rows = rows + part[1]
            self.assertEqual((number, island), (least, rows))
        net = Net(60, 6, [(event, (event + step) % 6, step, 58 + step) for event in range(6) for step in (1, 2)])
        found = islands(net)
        self.assertGreater(len(found), 50)
        for most in (1, 10 ** 7):
            prices = [bent_row(chance, 59, most) for _ in net.spans]
            number = min([best(net, prices, island)[0] for island in found])
            least = min([island for island in found if best(net, prices, island)[0] == number])
            self.assertEqual(best_of_all(net, prices), (number, least))
        self.assertLess(time.monotonic() - began, 12)


class EvenTest(unittest.TestCase):

    def test_examples(self):
        self.assertEqual(best_even(line(), [ROUND], PRICES), (2, (1,), (0, 2, 5, 7)))
        self.assertEqual(evenness_costs(line(), [ROUND], PRICES), 0)
        turn = [((1, 0), True)]
        prices = ((4, 3, 2, 1, 0), (4, 3, 2, 1, 0), (4, 3, 2, 1, 0), (4, 3, 2, 1, 0))
        # Evenly twice 2 and twice 4; unevenly 0, 4, 2 and 0.
        self.assertEqual(best_even(three(), turn, prices), (12, (1, 0, 1), (0, 3)))
        self.assertEqual(best_of_all(three(), prices), (6, (1, 0, 2)))
        self.assertEqual(evenness_costs(three(), turn, prices), 6)
        self.assertEqual(evenness_costs(three(), [], prices), 0)
        # The one island of the other two timetables is kept by none.
        net = Net(5, 2, ((0, 1, 1, 4), (1, 0, 1, 4), (0, 1, 3, 6), (1, 0, 3, 6)))
        self.assertEqual(islands(net), [(1, 0, 2), (1, 1, 1)])
        flat = ((0,) * 4,) * 4
        self.assertIsNone(best_even(net, turn, flat))
        self.assertIsNone(evenness_costs(net, turn, flat))
        self.assertEqual(best_even(BARRED, [], ((0,), (0,))), None)
        self.assertEqual(best_even(Net(5, 2, ()), [], ()), (0, (), (0, 0)))

    def test_broken_moments(self):
        net, turn = wheel(4)
        told = best_even(net, [turn], [(0, 0, 0)] * 4)
        self.assertEqual(told, (0, (1,), (0, HALF + 2, 5, HALF + 7)))

    def test_against_all_whole_timetables(self):
        told = {"none": 0, "costs": 0, "free": 0}
        for net, lot, prices in samples(127, 500, 6):
            least = slow_bests(net, prices)
            kept = even_islands(net, lot)
            found = best_even(net, lot, prices)
            if not kept:
                self.assertIsNone(found)
            else:
                number, island, timetable = found
                self.assertEqual(number, min([least[row] for row in kept]))
                self.assertEqual(island, min([row for row in kept if least[row] == number]))
                self.assertTrue(is_even(net, lot, timetable))
                self.assertEqual((island_of(net, timetable), cost(net, prices, timetable)), (island, number))
                self.assertTrue(all([timetable[piece[0]] == 0 for piece in pieces(net)]))
                self.assertTrue(all([is_plain(moment) for moment in timetable]))
                for moments in slow_timetables(net)[:50]:
                    even = evened(net, lot, moments)
                    if even[0] == "even":
                        self.assertGreaterEqual(fraction(cost(net, prices, even[1])), number)
            if not least:
                self.assertEqual(error_of(evenness_costs, net, lot, prices), ("NoTimetable",))
                continue
            costs = evenness_costs(net, lot, prices)
            if not kept:
                self.assertIsNone(costs)
                told["none"] += 1
            else:
                self.assertEqual(costs, found[0] - min(least.values()))
                told["costs" if costs else "free"] += 1
        self.assertGreater(min(told.values()), 0)

    def test_mean_lengths_of_a_best_one(self):
        net, turn = wheel(4)
        prices = [(5, 2, 0)] * 4
        number, island, timetable = best_even(net, [turn], prices)
        even = evened(net, [turn], best(net, prices, island)[1])
        self.assertEqual(even, ("even", timetable))
        self.assertEqual(cost(net, prices, timetable), number)

    def test_errors(self):
        unlike = ((0, 1, 2), (4, 2, 1), (0, 1, 2), (4, 2, 2))
        for call in (best_even, evenness_costs):
            for thing in [thing for thing, told in not_likenesses()] + things():
                self.assertEqual(error_of(call, line(), [MIRROR, thing], None), ("BadLot", 1))
            for thing in faulty_rows() + things():
                self.assertEqual(error_of(call, line(), [MIRROR], [PRICES[0], unlike[1], thing, None]), ("BadPrices", 2))
            for thing in things():
                if not isinstance(thing, (list, tuple)):
                    self.assertEqual(error_of(call, line(), thing, None), ("BadLot", -1))
                    self.assertEqual(error_of(call, line(), [MIRROR], thing), ("BadPrices", -1))
            self.assertEqual(error_of(call, line(), [MIRROR] * 7, None), ("BadLot", -1))
            self.assertEqual(error_of(call, Net(5, 24, ()), [(turned((5, 7)), False)], None), ("TooMany", 48))
            self.assertEqual(error_of(call, line(), [MIRROR], unlike), ("UnlikePrices",))
            self.assertIsNone(error_of(call, line(), (OTHER,), unlike))
            self.assertEqual(error_of(call, BARRED, [((1, 0), True)], ((0,), (1,))), ("UnlikePrices",))
        self.assertIsNone(best_even(BARRED, [((1, 0), True)], ((1,), (1,))))
        self.assertEqual(error_of(evenness_costs, BARRED, [((1, 0), True)], ((1,), (1,))), ("NoTimetable",))


class UnchangedTest(unittest.TestCase):

    def test_nothing_is_changed_and_answers_are_equal(self):
        prices = [tuple(row) for row in PRICES]
        lot = [ROUND]
        kept = copy.deepcopy((prices, lot))
        for call, passed in [
            (best, (line(), prices, (1,))), (best_of_all, (line(), prices)), (best_even, (line(), lot, prices)),
            (evenness_costs, (line(), lot, prices)), (better_move, (line(), prices, RIGHT)), (cost, (line(), prices, RIGHT)),
        ]:
            self.assertEqual(call(*passed), call(*passed))
        self.assertEqual((prices, lot), kept)
        self.assertEqual(best(line(), PRICES, (1,)), best(line(), prices, (1,)))
        self.assertIs(is_best(line(), prices, (1,), best(line(), prices, (1,))), True)
        self.assertEqual(leader(line(), (1,)), (0, 2, 3, 7))


if __name__ == "__main__":
    unittest.main()
