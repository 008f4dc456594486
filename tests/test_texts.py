"""Texts there and back: point 14.1, and example e10."""

import copy
import random
import unittest

from likespans.likes import likenesses
from likespans.nets import Net
from likespans.ratios import Ratio
from likespans.texts import (
    likeness_text, net_text, number_text, read_likeness, read_net, read_timetable, timetable_text,
)
from likespans.timetables import is_timetable
from tests.slow import alike_net, slow_timetables, some_net
from tests.test_likes import MIRROR, OTHER, ROUND, SAME, not_likenesses
from tests.things import error_of, fraction, is_plain, line, ratio, things

RIGHT = (0, 3, 5, 8)
TEXT = "beat 10\nevents 4\nspan 0 1 2 4\nspan 1 2 1 3\nspan 2 3 2 4\nspan 3 0 1 3"
# What is no whole number as rows of nets and plans have it: what is right beside it is 3.
NO_COUNTS = [
    "", "-3", "-0", "+3", "03", "00", "000", "3.0", "3.", "3/1", "1/3", "x", "3x", "x3", "0x3", "3e0", "1_0", "3,", "3\t",
    "\t3", "3-", "1000000000", "0123456789", "9999999999", "'3'", "(3)", "three", "None", "True", "~", "10 ** 1",
]


def not_numbers():
    """Words that number_text never writes."""
    words = ["", "-", "--1", "-0", "+1", "01", "-01", "00", "0/1", "1/1", "-1/1", "3/1", "2/4", "-2/4", "1/0", "-1/0", "0/0"]
    words += ["1/-2", "-1/-2", "1/+2", "/2", "3/", "/", "-/2", "1/02", "01/2", "0/2", "-0/2", "1//2", "1/2/3", "1/1/1"]
    words += ["1.5", "1,5", "1e1", "1_0", "0x1", "1/2.0", "one", "x/2", "2/x", "1\t", "\t1", "1\n", "\n1", "1\n2", "(1)", "1-"]
    return words + ["10/20", "6/3", "1 /2", "1/ 2", "None", "True", "Ratio(1, 2)", str(10 ** 39) + "/" + str(10 ** 38)]


def spoiled(text, at, row):
    """A text with another row."""
    rows = text.split("\n")
    rows[at] = row
    return "\n".join(rows)


class NumberTest(unittest.TestCase):

    def test_numbers(self):
        for number, text in [
            (0, "0"), (7, "7"), (-7, "-7"), (10 ** 40 - 1, "9" * 40), (-10 ** 39, "-1" + "0" * 39), (Ratio(6, 3), "2"),
            (Ratio(0, 5), "0"), (Ratio(1, 2), "1/2"), (Ratio(2, -4), "-1/2"), (Ratio(-7, 3), "-7/3"), (Ratio(12, 1), "12"),
            (Ratio(1, 10 ** 39), "1/1" + "0" * 39), (Ratio(10 ** 39, 3), "1" + "0" * 39 + "/3"),
        ]:
            self.assertEqual(number_text(number), text)

    def test_errors(self):
        for thing in things():
            if isinstance(thing, Ratio) or (isinstance(thing, int) and not isinstance(thing, bool)):
                self.assertEqual(number_text(thing), str(fraction(thing)))
            else:
                error = error_of(number_text, thing)
                self.assertEqual(error[0], "BadNumber")
                self.assertIs(error[1], thing)


class NetTest(unittest.TestCase):

    def test_examples(self):
        self.assertEqual(net_text(Net(5, 2, ((0, 1, 1, 3),))), "beat 5\nevents 2\nspan 0 1 1 3")
        self.assertEqual(net_text(line()), TEXT)
        self.assertEqual(read_net(TEXT), line())
        self.assertEqual(read_net("beat 3\nevents 1"), Net(3, 1, ()))
        self.assertEqual(net_text(Net(1440, 24, [(23, 0, 2880, 2880)])), "beat 1440\nevents 24\nspan 23 0 2880 2880")
        self.assertIsInstance(read_net(TEXT).spans, tuple)

    def test_there_and_back(self):
        chance = random.Random(140)
        for _ in range(100):
            net = some_net(chance)
            text = net_text(net)
            self.assertEqual(read_net(text), net)
            self.assertEqual(net_text(read_net(text)), text)

    def test_no_string(self):
        for thing in things():
            if not isinstance(thing, str):
                self.assertEqual(error_of(read_net, thing), ("BadText", -1))
            else:
                self.assertEqual(error_of(read_net, thing), ("BadText", 0))

    def test_each_number_of_each_row(self):
        for at, row in enumerate(TEXT.split("\n")):
            words = row.split(" ")
            for place in range(1, len(words)):
                for count in NO_COUNTS:
                    text = spoiled(TEXT, at, " ".join(words[:place] + [count] + words[place + 1:]))
                    self.assertEqual(error_of(read_net, text), ("BadText", at), text)

    def test_rows_that_are_written_otherwise(self):
        for at, row in enumerate(TEXT.split("\n")):
            words = row.split(" ")
            rows = ["", " ", row + " ", " " + row, row.replace(" ", "  "), row.replace(" ", "  ", 1), row + "\t", row + " 1"]
            rows += [row.replace(" ", "\t"), row.upper(), row.title(), row + "#", "x" + row, words[0], " ".join(words[:-1])]
            rows += [" ".join(words[1:]), " ".join(words[1:] + words[:1]), "beats 10", "event 4", "spans 0 1 2 4", "line a p 1 2 q"]
            for other in rows:
                self.assertEqual(error_of(read_net, spoiled(TEXT, at, other)), ("BadText", at), other)

    def test_rows_that_are_lacking_or_stand_elsewhere(self):
        rows = TEXT.split("\n")
        for kept, told in [
            ([], 0), (rows[:1], 1), (rows[1:], 0), (rows[2:], 0), (rows[:1] + rows[2:], 1), (rows[1::-1] + rows[2:], 0),
            (rows + [""], 6), (rows[:2] + [""], 2), (rows[:1] + [""], 1), ([""] + rows, 0), (rows[:4] + [""] + rows[4:], 4),
            (rows + rows[:1], 6), (rows + rows[1:2], 6), (rows[:2] + rows[:1] + rows[2:], 2), (rows[:1] * 2, 1),
            (rows[:2] + rows[1:], 2), (rows[:1] + ["span 0 1 2 4"] + rows[1:], 1), ([""] * 3, 0),
        ]:
            self.assertEqual(error_of(read_net, "\n".join(kept)), ("BadText", told), kept)

    def test_the_first_row_of_several(self):
        for at in range(6):
            text = TEXT
            for later in range(at, 6):
                text = spoiled(text, later, "span 0 1 02 4")
            self.assertEqual(error_of(read_net, text), ("BadText", at))

    def test_what_net_raises(self):
        for beat in (0, 2, 1441, 999999999):
            self.assertEqual(error_of(read_net, f"beat {beat}\nevents 0\nspan 0 0 0 0"), ("BadBeat", beat))
        for events in (0, 25, 999999999):
            self.assertEqual(error_of(read_net, f"beat 10\nevents {events}\nspan 0 0 0 0"), ("BadEvents", events))
        for span, told in [
            ("0 0 1 2", 0), ("0 4 1 2", 0), ("4 0 1 2", 0), ("0 1 3 2", 0), ("0 1 0 9", 0), ("0 1 0 999999999", 0), ("0 1 0 8", None),
            ("0 1 2 4", 1), ("1 2 1 3", 2), ("0 1 2873 2881", 0), ("0 1 2872 2880", None), ("0 1 0 0", None),
        ]:
            text = TEXT.replace("events 4\n", f"events 4\nspan {span}\n")
            self.assertEqual(error_of(read_net, text), None if told is None else ("BadSpan", told))
        rows = [f"span 0 1 {low} {low}" for low in range(61)]
        self.assertEqual(error_of(read_net, "\n".join(["beat 5", "events 2"] + rows)), ("BadSpan", -1))
        self.assertIsNone(error_of(read_net, "\n".join(["beat 5", "events 2"] + rows[:60])))
        # A row that is not written so is told ahead of what Net raises.
        self.assertEqual(error_of(read_net, "beat 2\nevents 0\nspan 0 0 0 00"), ("BadText", 2))


class TimetableTest(unittest.TestCase):

    def test_examples(self):
        self.assertEqual(timetable_text(line(), RIGHT), "0 3 5 8")
        broken = (Ratio(1, 2), Ratio(7, 2), Ratio(10, 2), Ratio(25, 3))
        self.assertEqual(timetable_text(line(), broken), "1/2 7/2 5 25/3")
        self.assertEqual(read_timetable(line(), "1/2 7/2 5 25/3"), (Ratio(1, 2), Ratio(7, 2), 5, Ratio(25, 3)))
        self.assertEqual(read_timetable(line(), "0 3 5 8"), RIGHT)
        self.assertEqual(read_timetable(Net(5, 1, ()), "4"), (4,))
        top = 10 ** 40 - 1
        self.assertEqual(read_timetable(Net(5, 1, ()), f"{top}/{top - 1}"), (Ratio(top, top - 1),))
        self.assertEqual(timetable_text(Net(5, 1, ()), (Ratio(top, top - 1),)), f"{top}/{top - 1}")

    def test_there_and_back(self):
        chance = random.Random(141)
        for _ in range(100):
            net = some_net(chance)
            for timetable in slow_timetables(net)[:50]:
                parts = chance.randint(2, 5)
                for moments in (timetable, tuple([ratio(fraction(moment) / parts) for moment in timetable])):
                    if is_timetable(net, moments):
                        text = timetable_text(net, moments)
                        again = read_timetable(net, text)
                        self.assertEqual(again, moments)
                        self.assertTrue(all([is_plain(moment) for moment in again]))
                        self.assertEqual(timetable_text(net, again), text)
                        self.assertEqual(text, " ".join([str(fraction(moment)) for moment in moments]))

    def test_what_is_no_timetable(self):
        for thing in things() + [(0, 3, 7, 9), list(RIGHT)]:
            self.assertEqual(error_of(timetable_text, line(), thing), ("BadTimetable",))
        for text in [
            "0", "0 3 5", "0 3 5 8 0", "0 3 7 9", "0 3 5 -8", "10 3 5 8", "-1/2 3 5 8", "0 3 5 21/2", "0 3 5 " + "9" * 40,
            "0 1 2 3 4 5 6 7", "-5", "1/2", "0 3 5 13/2",
        ]:
            self.assertEqual(error_of(read_timetable, line(), text), ("BadTimetable",), text)

    def test_what_is_not_written_so(self):
        for thing in things():
            if not isinstance(thing, str):
                self.assertEqual(error_of(read_timetable, line(), thing), ("BadText", -1))
        for text in ["", " ", "  ", "\n", "0  3 5 8", "0 3 5 8 ", " 0 3 5 8", "0 3 5 8\n", "0 3\n5 8", "0\t3 5 8", "0,3,5,8", "x"]:
            self.assertEqual(error_of(read_timetable, line(), text), ("BadText", 0), text)
        for word in not_numbers():
            for text in (word, "0 3 5 " + word, word + " 3 5 8", "0 " + word + " 5 8", "0 3 7 9 " + word):
                self.assertEqual(error_of(read_timetable, line(), text), ("BadText", 0), text)


class LikenessTest(unittest.TestCase):

    def test_examples(self):
        for likeness, text in [
            (SAME, "0 1 2 3 forth"), (MIRROR, "1 0 3 2 mirror"), (ROUND, "2 3 0 1 forth"), (OTHER, "3 2 1 0 mirror"),
        ]:
            self.assertEqual(likeness_text(line(), likeness), text)
            self.assertEqual(read_likeness(line(), text), likeness)

    def test_there_and_back(self):
        chance = random.Random(142)
        for _ in range(60):
            net = alike_net(chance)[0]
            for likeness in likenesses(net):
                again = read_likeness(net, likeness_text(net, likeness))
                self.assertEqual(again, likeness)
                self.assertIs(again[1], likeness[1])
        many = Net(5, 24, ())
        likeness = (tuple(range(24))[::-1], False)
        self.assertEqual(read_likeness(many, likeness_text(many, likeness)), likeness)

    def test_what_is_no_likeness(self):
        for thing in [thing for thing, told in not_likenesses()] + things():
            self.assertEqual(error_of(likeness_text, line(), thing), ("BadLikeness",))
        for text in [
            "forth", "mirror", "0 1 2 forth", "0 1 2 3 4 forth", "0 1 2 4 forth", "0 1 2 2 forth", "0 1 2 3 mirror", "1 2 3 0 forth",
            "999999999 1 2 3 forth", "0 forth",
        ]:
            self.assertEqual(error_of(read_likeness, line(), text), ("BadLikeness",), text)

    def test_what_is_not_written_so(self):
        for thing in things():
            if not isinstance(thing, str):
                self.assertEqual(error_of(read_likeness, line(), thing), ("BadText", -1))
        for text in [
            "", " ", "0 1 2 3", "0 1 2 3 back", "0 1 2 3 forth ", " 0 1 2 3 forth", "0 1  2 3 forth", "0 1 2 3  forth", "forth 0 1 2 3",
            "0 1 2 3 Forth", "0 1 2 3 forth\n", "0 1 2\n3 forth", "0 1 2 3 forth forth", "0 1 forth 2 3 forth", " forth", "forth ",
            "0 1 2 3forth", "0 1 2 3\tforth", "0 1 2 3 True", "0 1 2 3 mirror forth", "forth\n", "mirror mirror",
        ]:
            self.assertEqual(error_of(read_likeness, line(), text), ("BadText", 0), text)
        for count in NO_COUNTS:
            for text in (f"{count} 1 2 3 forth", f"0 1 2 {count} forth", f"{count} mirror", f"0 1 2 3 {count} mirror"):
                self.assertEqual(error_of(read_likeness, line(), text), ("BadText", 0), text)

    def test_nothing_is_changed(self):
        net = line()
        for call, thing in [(likeness_text, ROUND), (timetable_text, RIGHT), (read_likeness, "0 1 2 3 forth")]:
            kept = copy.deepcopy(thing)
            call(net, thing)
            self.assertEqual((net, thing), (line(), kept))


if __name__ == "__main__":
    unittest.main()
