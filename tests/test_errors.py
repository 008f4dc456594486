"""The error classes: points 0.3, and the list of the interface."""

import copy
import unittest

from likespans import errors
from tests.things import things

KEPT = {
    "BadNumber": "value", "BadBeat": "beat", "BadEvents": "events", "BadSpan": "index", "BadWay": None,
    "BadEvent": "thing", "BadRing": None, "BadTimetable": None, "BadLengths": "index", "BadIsland": "index",
    "TooMany": "limit", "BadMove": None, "Broken": "index", "BadMoves": "index", "BadLikeness": None,
    "BadLot": "index", "NotEven": None, "BadMost": "most", "OtherPiece": None, "BadPrices": "index",
    "NoTimetable": None, "UnlikePrices": None, "NoFold": None, "Clash": None, "BadTimes": "times",
    "BadText": "row", "NoEvent": None, "NoLine": "name", "NoSpan": "index", "Refused": "error",
    "NothingDone": None, "OtherEvents": None, "NoSpans": None, "BadMinutes": "minutes", "BadBeats": "beats",
}


def made(name, *passed):
    """An error of a class, made with what is passed."""
    return getattr(errors, name)(*passed)


def one_of_each():
    """An error of each class."""
    return [made(name) if KEPT[name] is None else made(name, 7) for name in KEPT]


class ErrorsTest(unittest.TestCase):

    def test_base_of_all(self):
        self.assertEqual(errors.SpansError.__bases__, (ValueError,))

    def test_each_derives_from_the_base_alone(self):
        for name in KEPT:
            with self.subTest(name):
                self.assertEqual(getattr(errors, name).__bases__, (errors.SpansError,))
                self.assertEqual(getattr(errors, name).__module__, "likespans.errors")

    def test_there_are_no_others(self):
        found = [name for name, value in vars(errors).items() if isinstance(value, type)]
        self.assertEqual(sorted(found), sorted(list(KEPT) + ["SpansError"]))

    def test_each_keeps_what_it_is_made_with(self):
        for name, attribute in KEPT.items():
            for thing in things() if attribute else []:
                with self.subTest(name, thing=thing):
                    self.assertIs(getattr(made(name, thing), attribute), thing)

    def test_each_takes_what_stands_in_its_parentheses(self):
        for name, attribute in KEPT.items():
            with self.subTest(name):
                right = () if attribute is None else (3,)
                self.assertIsInstance(made(name, *right), errors.SpansError)
                self.assertRaises(TypeError, made, name, *right, 4)
                if attribute:
                    self.assertRaises(TypeError, made, name)

    def test_none_catches_errors_of_another_class(self):
        for error in one_of_each():
            for name in KEPT:
                with self.subTest(name, error=error):
                    caught = isinstance(error, getattr(errors, name))
                    self.assertEqual(caught, type(error).__name__ == name)

    def test_all_are_caught_by_their_base(self):
        for error in one_of_each():
            with self.assertRaises(errors.SpansError) as caught:
                raise error
            self.assertIs(caught.exception, error)

    def test_errors_can_be_copied(self):
        for error in one_of_each():
            self.assertEqual(vars(copy.copy(error)), vars(error))


if __name__ == "__main__":
    unittest.main()
