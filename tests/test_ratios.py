"""Ratios: points 0.2 to 0.4 and 1.1, and example e01."""

import operator
import unittest
from fractions import Fraction

from likespans.errors import BadNumber
from likespans.ratios import Ratio
from tests.things import fraction, line, ratio, things

GREAT = 10 ** 40 - 1


def no_numbers():
    """Things that are neither integers nor Ratios."""
    return [thing for thing in things() if not isinstance(thing, Ratio) and type(thing) is not int]


def values():
    """Fractions to try: whole, below 0, equal to others, great."""
    tops = [-7, -6, -1, 0, 1, 2, 3, 19, GREAT]
    return [Fraction(top, bottom) for top in tops for bottom in (1, 2, 3, 12, GREAT - 1)]


def whole_values():
    """Integers to try beside Ratios."""
    return [-GREAT, -5, -1, 0, 1, 2, 60, GREAT]


class MakingTest(unittest.TestCase):

    def test_example(self):
        shown = (Ratio(6, -4).top, Ratio(6, -4).bottom, Ratio(7, 2).whole(), Ratio(-1, 2).rest(10) == Ratio(19, 2))
        self.assertEqual(shown, (-3, 2, 3, True))

    def test_lowest_terms(self):
        for top, bottom, kept in [
            (6, 4, (3, 2)), (-6, 4, (-3, 2)), (6, -4, (-3, 2)), (-6, -4, (3, 2)), (0, 5, (0, 1)), (0, -5, (0, 1)),
            (5, 5, (1, 1)), (7, 1, (7, 1)), (-7, -1, (7, 1)), (GREAT * 2, GREAT * 4, (1, 2)), (3, 7, (3, 7)),
        ]:
            with self.subTest(top=top, bottom=bottom):
                made = Ratio(top, bottom)
                self.assertEqual((made.top, made.bottom), kept)

    def test_bottom_0(self):
        with self.assertRaises(BadNumber) as caught:
            Ratio(3, 0)
        self.assertEqual(caught.exception.value, 0)

    def test_wrong_kinds_in_each_place(self):
        wrong = [thing for thing in things() if type(thing) is not int]
        self.assertIn(True, wrong)
        for thing in wrong:
            for passed in [(thing, 2), (2, thing), (thing, 0), (thing, thing)]:
                with self.subTest(passed=passed):
                    with self.assertRaises(BadNumber) as caught:
                        Ratio(*passed)
                    self.assertIs(caught.exception.value, thing)

    def test_the_first_wrong_one_of_two(self):
        with self.assertRaises(BadNumber) as caught:
            Ratio("a", "b")
        self.assertEqual(caught.exception.value, "a")

    def test_shown(self):
        self.assertEqual(repr((Ratio(6, -4), Ratio(2, 1))), "(Ratio(-3, 2), Ratio(2, 1))")


class ArithmeticTest(unittest.TestCase):

    def check(self, told, value):
        self.assertIs(type(told), Ratio)
        self.assertEqual((told.top, told.bottom), (value.numerator, value.denominator))

    def test_ratios_with_ratios(self):
        for sign in (operator.add, operator.sub, operator.mul):
            for one in values():
                for other in values():
                    self.check(sign(ratio(one), ratio(other)), sign(one, other))

    def test_integers_on_either_side(self):
        for sign in (operator.add, operator.sub, operator.mul):
            for one in values():
                for other in whole_values():
                    self.check(sign(ratio(one), other), sign(one, other))
                    self.check(sign(other, ratio(one)), sign(other, one))

    def test_minus_in_front(self):
        for value in values():
            self.check(-ratio(value), -value)

    def test_flags_are_no_numbers_for_signs(self):
        for sign in (operator.add, operator.sub, operator.mul):
            for thing in (True, "1", None):
                self.assertRaises(TypeError, sign, Ratio(1, 2), thing)
                self.assertRaises(TypeError, sign, thing, Ratio(1, 2))

    def test_operands_stay_as_they_were(self):
        one, other = Ratio(1, 2), Ratio(-2, 3)
        told = [one + other, one - other, one * other, -one, one.over(other), one.rest(7), one + 1, 1 - one]
        told.append([one.less(other), one.sign(), one.whole(), one == other])
        self.assertEqual((one.top, one.bottom, other.top, other.bottom), (1, 2, -2, 3))

    def test_over(self):
        for one in values():
            for other in values():
                if other:
                    self.check(ratio(one).over(ratio(other)), one / other)
            for other in whole_values():
                if other:
                    self.check(ratio(one).over(other), one / other)

    def test_over_what_is_no_number_or_0(self):
        for thing in no_numbers() + [0, Ratio(0, 1), Ratio(0, -3)]:
            with self.subTest(thing=thing):
                with self.assertRaises(BadNumber) as caught:
                    Ratio(1, 2).over(thing)
                self.assertIs(caught.exception.value, thing)


class ComparingTest(unittest.TestCase):

    def test_equal_to_the_same_number_alone(self):
        for one in values():
            for other in values():
                self.assertIs(ratio(one) == ratio(other), one == other)
                self.assertIs(ratio(one) != ratio(other), one != other)
            for other in whole_values():
                self.assertIs(ratio(one) == other, one == other)
                self.assertIs(other == ratio(one), one == other)

    def test_equal_to_nothing_of_another_kind(self):
        for made in (Ratio(0, 1), Ratio(1, 1), Ratio(1, 2)):
            for thing in no_numbers() + [1.0, 0.5, 0.0, {1}, 1j]:
                with self.subTest(made=made, thing=thing):
                    self.assertIs(made == thing, False)
                    self.assertIs(thing == made, False)
                    self.assertIs(made != thing, True)

    def test_equal_within_tuples(self):
        self.assertEqual((Ratio(4, 2), 1, Ratio(1, 2)), (2, Ratio(1, 1), Ratio(2, 4)))
        self.assertNotEqual((Ratio(1, 1),), (True,))
        self.assertNotEqual(Ratio(1, 1), line())

    def test_less(self):
        for one in values():
            for other in values():
                self.assertIs(ratio(one).less(ratio(other)), one < other)
            for other in whole_values():
                self.assertIs(ratio(one).less(other), one < other)

    def test_less_than_what_is_no_number(self):
        for thing in no_numbers():
            with self.subTest(thing=thing):
                with self.assertRaises(BadNumber) as caught:
                    Ratio(1, 2).less(thing)
                self.assertIs(caught.exception.value, thing)

    def test_sign(self):
        for value in values():
            told = ratio(value).sign()
            self.assertIs(type(told), int)
            self.assertEqual(told, (value > 0) - (value < 0))

    def test_whole(self):
        for value in values():
            told = ratio(value).whole()
            self.assertIs(type(told), int)
            self.assertEqual(told, value.numerator // value.denominator)
        self.assertEqual([Ratio(top, 2).whole() for top in (-4, -3, -1, 1, 4)], [-2, -2, -1, 0, 2])

    def test_rest(self):
        for value in values():
            for beat in (1, 2, 10, 1440):
                told = ratio(value).rest(beat)
                self.assertIs(type(told), Ratio)
                self.assertEqual(fraction(told), value % beat)
        self.assertEqual(Ratio(20, 1).rest(10), 0)
        self.assertEqual(Ratio(-1, 3).rest(1), Ratio(2, 3))


if __name__ == "__main__":
    unittest.main()
