"""Prices and what timetables cost by them: point 11.1."""

import random
import unittest
from fractions import Fraction

from likespans.likes import spans_led
from likespans.nets import Net
from likespans.prices import are_alike, cost, prices_fault
from likespans.ratios import Ratio
from likespans.timetables import lengths, shifted
from tests.slow import alike_net, slow_cost, slow_group, slow_timetables, some_prices
from tests.test_likes import MIRROR, OTHER, ROUND, SAME, not_likenesses, turned
from tests.things import error_of, fraction, is_plain, line, ratio, things

HALF = Ratio(1, 2)
RIGHT = (0, 3, 5, 8)
PRICES = ((0, 1, 2), (4, 2, 1), (0, 1, 2), (4, 2, 1))
MOST = 10 ** 9


def faulty_rows():
    """Things that are no prices of a span that lasts from so many to two minutes more."""
    return [
        None, 0, [], (), [0, 1, 2], (0, 1), (0, 1, 2, 3), (0, 1, True), (False, 1, 2), (0, Ratio(1, 1), 2), (0, "1", 2),
        (0, None, 2), (0, 1, (2,)), "012", range(3), {0: 0, 1: 1, 2: 2}, (0, 2, 3), (0, 0, -1), (5, 3, 0), (0, 1, MOST + 1),
        (-MOST - 1, 0, 1), (MOST + 1, MOST, MOST), (0, MOST + 1, 0), (1, 2, 2), (-2, -1, -1), line(), (10 ** 40,) * 3,
    ]


class FaultTest(unittest.TestCase):

    def test_right_ones(self):
        for prices in [
            PRICES, list(PRICES), ((0, 0, 0),) * 4, ((2, 1, 0),) * 4, ((-5, -4, -2), (1, 0, 0), (3, 0, -3), (0, 0, MOST)),
            ((MOST, -MOST, MOST), (-MOST, -MOST, -MOST), (MOST, 0, -MOST), (-MOST, 0, MOST)),
        ]:
            self.assertIsNone(prices_fault(line(), prices))
        self.assertIsNone(prices_fault(Net(5, 2, ()), ()))
        self.assertIsNone(prices_fault(Net(5, 2, ()), []))
        self.assertIsNone(prices_fault(Net(5, 2, ((0, 1, 3, 3),)), ((-7,),)))
        self.assertIsNone(prices_fault(Net(5, 2, ((0, 1, 3, 4),)), ((9, -7),)))

    def test_no_rows(self):
        rows = [PRICES[:3], PRICES + PRICES[:1], (), [], {0: 0}, dict(enumerate(PRICES)), "abcd", range(4), iter(PRICES)]
        for thing in things() + rows:
            told = prices_fault(line(), thing)
            if isinstance(thing, (list, tuple)) and len(thing) == 4:
                self.assertEqual(told, ("prices", 0))
            else:
                self.assertEqual(told, ("prices", -1))
        self.assertEqual(prices_fault(Net(5, 2, ()), ((),)), ("prices", -1))

    def test_each_fault_and_the_first_item(self):
        for thing in faulty_rows() + things():
            for index in range(4):
                with self.subTest(thing=thing, index=index):
                    row = list(PRICES[:index]) + [thing] + [None] * (3 - index)
                    self.assertEqual(prices_fault(line(), row), ("prices", index))
                    self.assertEqual(prices_fault(line(), tuple(row)), ("prices", index))
        self.assertEqual(prices_fault(line(), ((0, 1, 2), (4, 2, 1), (0, 2, 3), (4, 2, -1))), ("prices", 2))
        one = Net(5, 2, ((0, 1, 3, 3),))
        for row in [(), (1, 1), (True,), (MOST + 1,), (-MOST - 1,), [1], 1]:
            self.assertEqual(prices_fault(one, (row,)), ("prices", 0))

    def test_bends_of_long_rows(self):
        net = Net(1440, 2, ((0, 1, 0, 1438),))
        row = [(at - 700) * (at - 700) for at in range(1439)]
        self.assertIsNone(prices_fault(net, (tuple(row),)))
        for at in (0, 1, 2, 700, 1437, 1438):
            spoiled = list(row)
            spoiled[at] = spoiled[at] + (-5 if at in (0, 1438) else 5)
            self.assertEqual(prices_fault(net, [tuple(spoiled)]), ("prices", 0))
        self.assertEqual(prices_fault(net, [tuple(row[1:])]), ("prices", 0))


class CostTest(unittest.TestCase):

    def test_examples(self):
        for moments, told in [
            (RIGHT, 6), ((0, 2, 5, 7), 2), ((0, 2, 4, 8), 6), ((0, HALF + 2, 5, 8), 5), ((0, HALF + 2, 5, HALF + 7), 4),
            ((0, Ratio(7, 3), Ratio(13, 3), 8), 6), ((0, Ratio(9, 4), 5, 8), Ratio(9, 2)),
            (shifted(line(), RIGHT, HALF), 6), (tuple([Ratio(moment, 1) for moment in RIGHT]), 6),
        ]:
            found = cost(line(), PRICES, moments)
            self.assertEqual(found, told)
            self.assertTrue(is_plain(found))
            self.assertEqual(cost(line(), list(PRICES), moments), told)
        self.assertEqual(cost(Net(5, 2, ()), [], (0, HALF)), 0)

    def test_between_and_at_the_ends(self):
        net = Net(10, 2, ((0, 1, 2, 4),))
        prices = ((7, -3, MOST),)
        for moment, told in [
            (2, 7), (3, -3), (4, MOST), (HALF + 2, 2), (HALF + 3, Ratio(MOST - 3, 2)), (Ratio(21, 10), 6),
            (Ratio(39, 10), -3 + 9 * Ratio(MOST + 3, 10)), (Ratio(201, 100), Ratio(69, 10)),
            (Ratio(4 * 10 ** 20 - 1, 10 ** 20), MOST - Ratio(MOST + 3, 10 ** 20)),
        ]:
            self.assertEqual(cost(net, prices, (0, moment)), told)
        self.assertEqual(cost(Net(5, 2, ((0, 1, 3, 3),)), ((-7,),), (1, 4)), -7)

    def test_against_fractions(self):
        chance = random.Random(111)
        for _ in range(100):
            net, lot = alike_net(chance)
            prices = some_prices(chance, net, lot, 50)
            rows = slow_timetables(net)
            for moments in chance.sample(rows, min(3, len(rows))):
                for bottom in (1, 2, 7):
                    moved = tuple([ratio(Fraction(moment) + Fraction(chance.randint(0, 2), bottom)).rest(net.beat) for moment in moments])
                    if error_of(lengths, net, moved) is None:
                        row = [fraction(number) for number in lengths(net, moved)]
                        found = cost(net, prices, moved)
                        self.assertEqual(fraction(found), slow_cost(net, prices, row))
                        self.assertTrue(is_plain(found))

    def test_errors(self):
        for thing in faulty_rows() + things():
            row = [PRICES[0], PRICES[1], thing, None]
            self.assertEqual(error_of(cost, line(), row, None), ("BadPrices", 2))
            self.assertEqual(error_of(cost, line(), tuple(row), RIGHT), ("BadPrices", 2))
        for thing in things():
            if not isinstance(thing, (list, tuple)):
                self.assertEqual(error_of(cost, line(), thing, thing), ("BadPrices", -1))
            self.assertEqual(error_of(cost, line(), PRICES, thing), ("BadTimetable",))
        self.assertEqual(error_of(cost, line(), PRICES[:3], None), ("BadPrices", -1))
        self.assertEqual(error_of(cost, line(), PRICES, (0, 3, 7, 9)), ("BadTimetable",))


class AlikeTest(unittest.TestCase):

    def test_examples(self):
        other = ((0, 1, 2), (4, 2, 1), (0, 1, 2), (4, 2, 2))
        for lot, prices, told in [
            ([], other, True), ([ROUND], PRICES, True), ((ROUND,), list(PRICES), True), ([ROUND], other, False),
            ([OTHER], other, True), ([MIRROR], other, False), ([OTHER, MIRROR], PRICES, True), ([OTHER, MIRROR], other, False),
            ([SAME], other, True), ([SAME, OTHER, MIRROR], list(other), False),
        ]:
            self.assertIs(are_alike(line(), lot, prices), told)

    def test_against_the_group(self):
        chance = random.Random(112)
        told = {True: 0, False: 0}
        for _ in range(200):
            net, lot = alike_net(chance)
            prices = some_prices(chance, net, chance.choice([lot, lot[:1], []]), 2)
            right = True
            for likeness in slow_group(net, lot):
                right = right and all([prices[a] == prices[b] for a, b in enumerate(spans_led(net, likeness))])
            self.assertIs(are_alike(net, lot, prices), right)
            told[right] += 1
        self.assertGreater(min(told.values()), 30)

    def test_errors(self):
        for thing in [thing for thing, told in not_likenesses()] + things():
            self.assertEqual(error_of(are_alike, line(), [MIRROR, thing], None), ("BadLot", 1))
        for thing in things():
            if not isinstance(thing, (list, tuple)):
                self.assertEqual(error_of(are_alike, line(), thing, PRICES), ("BadLot", -1))
                self.assertEqual(error_of(are_alike, line(), [MIRROR], thing), ("BadPrices", -1))
        for thing in faulty_rows():
            self.assertEqual(error_of(are_alike, line(), [MIRROR], [PRICES[0], thing, None, None]), ("BadPrices", 1))
        self.assertEqual(error_of(are_alike, line(), [MIRROR] * 7, PRICES), ("BadLot", -1))
        self.assertEqual(error_of(are_alike, Net(5, 24, ()), [(turned((5, 7)), False)], None), ("TooMany", 48))


if __name__ == "__main__":
    unittest.main()
