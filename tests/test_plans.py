"""Plans of lines: points 13.1 to 13.4, and example e09."""

import copy
import random
import time
import unittest
from fractions import Fraction

from likespans.likes import is_likeness
from likespans.nets import Net
from likespans.plans import Plan
from likespans.ratios import Ratio
from likespans.timetables import from_lengths, is_timetable, lengths
from likespans.ways import way_ends
from tests.test_texts import NO_COUNTS
from tests.things import error_of, fraction, is_plain, line, ratio, things

SHORT = "beat 10\nline a p 2 4 q\nturn a p 1 3\nturn a q 1 3"
# Two lines that cross at the place m, and all kinds of rows.
CROSS = "\n".join([
    "beat 30", "line red a 3 4 m 5 6 z", "line blue b 3 5 m 2 2 c 7 9 z", "halt blue c 0 3", "turn red z 4 8",
    "change red out blue home m 1 9", "apart red out blue out m 10", "turn red z 4 7", "change red out red home z 4 7",
])
NO_NAMES = ["", "A", "aB", "abcdefghi", "a1", "1", "a-b", "a_b", "a.b", "a\tb", "*", "{", "a'"]


def run_row(name, places, runs):
    """The row of a line."""
    words = ["line", name, places[0]]
    for (low, high), place in zip(runs, places[1:]):
        words += [str(low), str(high), place]
    return " ".join(words)


def slow_events(lines):
    """What each event is, by the words of 13.2."""
    found = []
    for name, places in lines:
        for way, row in (("out", places), ("home", places[::-1])):
            for at, place in enumerate(row):
                if at != 0:
                    found.append((name, way, place, "arr"))
                if at != len(row) - 1:
                    found.append((name, way, place, "dep"))
    return found


def slow_spans(lines, runs, stays, links):
    """The spans, by the words of 13.2: stays by line and place, links as pairs of events with bounds."""
    number = {event: at for at, event in enumerate(slow_events(lines))}
    spans = []
    for name, places in lines:
        for way, row, bounds in (("out", places, runs[name]), ("home", places[::-1], runs[name][::-1])):
            other = "home" if way == "out" else "out"
            for at in range(len(row) - 1):
                spans.append(((name, way, row[at], "dep"), (name, way, row[at + 1], "arr"), bounds[at]))
            for place in row[1:-1]:
                spans.append(((name, way, place, "arr"), (name, way, place, "dep"), stays.get((name, place), (1, 2))))
            spans.append(((name, way, row[-1], "arr"), (name, other, row[-1], "dep"), stays.get((name, row[-1]), (1, 2))))
    found = []
    for one, other, bounds in spans + links:
        span = (number[one], number[other]) + bounds
        if span not in found:
            found.append(span)
    return tuple(found)


def some_plan(chance):
    """The text of a plan made by chance, its lines, and the net that the words of 13.2 make of it."""
    beat = chance.randint(8, 40)
    names = chance.sample(["a", "bb", "out", "home", "line", "abcdefgh"], chance.randint(1, 2))
    rows = [f"beat {beat}"]
    lines = []
    runs = {}
    stays = {}
    links = []
    for name in names:
        places = chance.sample(["p", "q", "r", "s", "a", "dep"], chance.randint(2, 4))
        runs[name] = []
        for _ in places[1:]:
            low = chance.randint(0, 20)
            runs[name].append((low, low + chance.randint(0, 6)))
        lines.append((name, places))
        rows.append(run_row(name, places, runs[name]))
        for place in chance.choices(places, k=chance.randint(0, 4)):
            low = chance.randint(0, 5)
            stays[(name, place)] = (low, low + chance.randint(0, 6))
            word = "turn" if place in (places[0], places[-1]) else "halt"
            rows.append(f"{word} {name} {place} {low} {stays[(name, place)][1]}")
    events = slow_events(lines)
    for _ in range(chance.randint(0, 6)):
        kind = chance.choice(["arr", "dep"])
        one = chance.choice([event for event in events if event[3] == kind])
        others = [event for event in events if event[2:] == (one[2], "dep") and event[:2] != one[:2]]
        if others:
            other = chance.choice(others)
            low = chance.randint(1, beat // 2)
            words = f"{one[0]} {one[1]} {other[0]} {other[1]} {one[2]} {low}"
            high = low + chance.randint(0, 6) if kind == "arr" else beat - low
            rows.append(f"change {words} {high}" if kind == "arr" else f"apart {words}")
            links.append((one, other, (low, high)))
    return "\n".join(rows), lines, Net(beat, len(events), slow_spans(lines, runs, stays, links))


class TextTest(unittest.TestCase):

    def test_example(self):
        plan = Plan(SHORT)
        self.assertEqual(plan.net, line())
        self.assertEqual(plan.text, SHORT)
        self.assertEqual((plan.mirror(), plan.trains("a", (0, 3, 5, 8))), (((3, 2, 1, 0), False), 1))

    def test_no_string(self):
        for thing in things():
            if not isinstance(thing, str):
                self.assertEqual(error_of(Plan, thing), ("BadText", -1))
            else:
                self.assertEqual(error_of(Plan, thing), ("BadText", 0))

    def test_the_beat(self):
        for row in ["", "line a p 2 4 q", "beat", "beat 10 10", " beat 10", "beat 10 ", "beat  10", "Beat 10", "beat\t10", "10", "beats 10"]:
            self.assertEqual(error_of(Plan, row + "\nline a p 2 4 q"), ("BadText", 0), row)
        for count in NO_COUNTS:
            self.assertEqual(error_of(Plan, f"beat {count}\nline a p 2 4 q"), ("BadText", 0), count)
        for text, told in [(SHORT + "\nbeat 10", 4), ("beat 10\nbeat 10\nline a p 2 4 q", 1), ("beat 10\n\n" + SHORT, 1)]:
            self.assertEqual(error_of(Plan, text), ("BadText", told))
        self.assertEqual(error_of(Plan, "\n" + SHORT), ("BadText", 0))

    def test_rows_right_and_wrong(self):
        # One row behind CROSS, and whether it is a row at all.
        begin = CROSS + "\n"
        for row, right in [
            ("", False), (" ", False), ("line c x 1 2 y", True), ("line c x 1 2", False), ("line c x", False), ("line c", False),
            ("line", False), ("line c x 1 2 y 3", False), ("line c x 1 2 y 3 4", False), ("line c x 1 2 x", False),
            ("line c x 1 2 y 1 2 x", False), ("line red x 1 2 y", False), ("line blue a 3 4 m 5 6 z", False), ("line c  x 1 2 y", False),
            ("line c x 1 2 y ", False), (" line c x 1 2 y", False), ("line c x 1 y 2", False), ("line c x y 1 2", False),
            ("line c a 1 2 b 1 2 c 1 2 d 1 2 e 1 2 f 1 2 g", False), ("lines c x 1 2 y", False), ("Line c x 1 2 y", False),
            ("halt red m 3 4", True), ("halt red a 3 4", False), ("halt red z 3 4", False), ("halt red b 3 4", False),
            ("halt green m 3 4", False), ("halt red m 3", False), ("halt red m", False), ("halt red m 3 4 5", False), ("halt", False),
            ("halt red  m 3 4", False), ("halt m red 3 4", False), ("halt blue m 3 4", True), ("halt blue c 3 4", True),
            ("turn red a 3 4", True), ("turn red z 3 4", True), ("turn red m 3 4", False), ("turn blue c 3 4", False), ("turn red b 3 4", False),
            ("turn blue a 3 4", False), ("turn green a 3 4", False), ("turn red a 3", False), ("turn red a 3 4 5", False), ("turn red", False),
            ("change red out blue out m 3 4", True), ("change red home blue home m 3 4", True), ("change blue home red out m 3 4", True),
            ("change red out red home m 3 4", True), ("change red out red out m 3 4", False), ("change blue home blue home m 3 4", False),
            ("change red out blue out z 3 4", False), ("change red out blue home z 3 4", True), ("change red home blue home z 3 4", False),
            ("change red out blue out a 3 4", False), ("change red out blue out b 3 4", False), ("change red home red out a 3 4", True),
            ("change red out red home a 3 4", False), ("change red home red out z 3 4", False), ("change red out red home z 3 4", True),
            ("change red in blue out m 3 4", False), ("change red out blue in m 3 4", False), ("change red Out blue out m 3 4", False),
            ("change green out blue out m 3 4", False), ("change red out green out m 3 4", False), ("change red out blue m 3 4", False),
            ("change red out blue out m 3", False), ("change red out blue out m 3 4 5", False), ("change red out blue out m", False),
            ("change red out blue out c 3 4", False), ("change blue out red home c 3 4", False), ("change out red out blue m 3 4", False),
            ("change", False), ("changes red out blue out m 3 4", False), ("change red out blue  out m 3 4", False),
            ("apart red out blue out m 3", True), ("apart red home blue home m 3", True), ("apart red out red home m 3", True),
            ("apart red home blue home z 3", True), ("apart red out blue home z 3", False), ("apart red out blue out z 3", False),
            ("apart red out red out m 3", False), ("apart blue home blue home m 3", False), ("apart red out blue out a 3", False),
            ("apart red out blue out m 3 4", False), ("apart red out blue out m", False), ("apart red out blue out", False),
            ("apart red out green out m 3", False), ("apart green out red out m 3", False), ("apart red x blue out m 3", False),
            ("apart red arr blue dep m 3", False), ("apart", False), ("beat 30", False), ("beat", False), ("# line", False), ("plan", False),
        ]:
            told = error_of(Plan, begin + row)
            if right:
                # What Net raises, if anything, is told of what is written right.
                self.assertTrue(told is None or told[0] != "BadText", row)
            else:
                self.assertEqual(told, ("BadText", 9), row)
                self.assertEqual(error_of(Plan, begin + row + "\nline"), ("BadText", 9), row)
                self.assertEqual(error_of(Plan, begin + "\n" + row), ("BadText", 9), row)

    def test_six_places(self):
        places = ["a", "b", "c", "d", "e", "f"]
        plan = Plan("beat 30\n" + run_row("x", places, [(3, 4)] * 5))
        self.assertEqual((plan.net.events, len(plan.net.spans)), (20, 20))
        self.assertEqual(error_of(Plan, "beat 30\n" + run_row("x", places + ["g"], [(3, 4)] * 6)), ("BadText", 1))
        self.assertEqual(error_of(Plan, "beat 30\nline x a"), ("BadText", 1))

    def test_numbers_of_rows(self):
        rows = ["line a p {} 4 q 5 6 r", "line a p 2 {} q 5 6 r", "line a p 2 4 q {} 6 r", "line a p 2 4 q 5 {} r"]
        for count in NO_COUNTS:
            for row in rows:
                self.assertEqual(error_of(Plan, "beat 10\n" + row.format(count)), ("BadText", 1), count)
            for row in [
                "halt red m {} 4", "halt red m 4 {}", "turn red a {} 4", "turn red a 4 {}", "change red out blue out m {} 4",
                "change red out blue out m 4 {}", "apart red out blue out m {}",
            ]:
                self.assertEqual(error_of(Plan, CROSS + "\n" + row.format(count)), ("BadText", 9), count)

    def test_names_of_rows(self):
        for name in NO_NAMES:
            for row in ["line {} p 2 4 q", "line a {} 2 4 q", "line a p 2 4 {}", "line a p 2 4 {} 1 2 q"]:
                self.assertEqual(error_of(Plan, "beat 10\n" + row.format(name)), ("BadText", 1), name)
            for row in [
                "halt {} m 3 4", "halt red {} 3 4", "turn {} a 3 4", "turn red {} 3 4", "change {} out blue out m 3 4",
                "change red {} blue out m 3 4", "change red out {} out m 3 4", "change red out blue {} m 3 4",
                "change red out blue out {} 3 4", "apart {} out blue out m 3", "apart red {} blue out m 3", "apart red out blue out {} 3",
            ]:
                self.assertEqual(error_of(Plan, CROSS + "\n" + row.format(name)), ("BadText", 9), name)
        self.assertEqual(Plan("beat 10\nline abcdefgh z 2 4 hgfedcba").lines(), ["abcdefgh"])

    def test_lines_are_told_ahead(self):
        rows = CROSS.split("\n")
        self.assertIsNone(error_of(Plan, CROSS))
        for kept, told in [
            ([0, 3, 1, 2], 1), ([0, 1, 3, 2], 2), ([0, 1, 5, 2], 2), ([0, 1, 6, 2], 2), ([0, 4, 1], 1), ([0, 1, 4, 7, 8, 2, 3], None),
            ([0, 1, 1], 2), ([0, 1, 2, 1], 3), ([1, 0, 2], 0), ([0, 0, 1], 1), ([0, 1, 0], 2), ([0, 2, 5], 2), ([0, 2, 3], None),
        ]:
            text = "\n".join([rows[at] for at in kept])
            self.assertEqual(error_of(Plan, text), None if told is None else ("BadText", told), kept)

    def test_the_first_bad_row(self):
        rows = CROSS.split("\n")
        for at in range(len(rows)):
            spoiled = rows[:at] + [row + " 1" for row in rows[at:]]
            self.assertEqual(error_of(Plan, "\n".join(spoiled)), ("BadText", at))
        for at in range(len(rows) + 1):
            told = error_of(Plan, "\n".join(rows[:at] + [""] + rows[at:]))
            self.assertEqual(told, ("BadText", at))

    def test_what_net_raises(self):
        for beat in (0, 2, 1441, 999999999):
            self.assertEqual(error_of(Plan, f"beat {beat}\nline a p 5 4 q\nline b p 2 4 q"), ("BadBeat", beat))
            self.assertEqual(error_of(Plan, f"beat {beat}"), ("BadBeat", beat))
        self.assertEqual(error_of(Plan, "beat 10"), ("BadEvents", 0))
        many = [run_row(name, ["p", "q"], [(5, 4)]) for name in "abcdefghijklmnopqrstuvwxyz"]
        self.assertEqual(error_of(Plan, "\n".join(["beat 10"] + many[:7])), ("BadEvents", 28))
        self.assertEqual(error_of(Plan, "\n".join(["beat 10"] + many)), ("BadEvents", 104))
        self.assertEqual(error_of(Plan, "\n".join(["beat 10"] + many[:6])), ("BadSpan", 0))
        three = run_row("a", ["p", "q", "r", "s"], [(2, 4), (2, 4), (2, 4)])
        for row, told in [
            ("turn a s 4 3", 5), ("halt a r 3 2", 4), ("halt a q 0 9", 3), ("turn a p 0 9", 11), ("halt a q 0 8", None),
            ("turn a p 2880 2881", 11), ("turn a p 2880 2880", None), ("line b p 2 4 q\nturn b q 3 2", 13), ("line b p 2 11 q", 12),
            ("change a out a home s 9 8", 12), ("line b q 2 4 x\nchange a out b out q 9 8\nturn a s 4 3", 5),
            ("line b q 2 4 x\napart a out b out q 6", 16), ("line b q 2 4 x\napart a out b out q 0", 16),
            ("line b q 2 4 x\napart a out b out q 5", None), ("line b q 2 4 x\napart a out b out q 1", None),
            ("line b q 2 4 x\napart a out b out q 11", 16), ("line b q 2 4 x\napart a out b out q 999999999", 16),
            # What is left out is not counted.
            ("change a out a home s 1 2\nchange a home a out p 3 2", 12), ("halt a r 3 2\nhalt a r 2 3", None),
        ]:
            self.assertEqual(error_of(Plan, "\n".join(["beat 10", three, row])), None if told is None else ("BadSpan", told), row)
        rows = [f"change a out a home s {low} {low}" for low in range(49)]
        self.assertIsNone(error_of(Plan, "\n".join(["beat 10", three] + rows[:48])))
        self.assertEqual(error_of(Plan, "\n".join(["beat 10", three] + rows)), ("BadSpan", -1))

    def test_hundreds_of_rows(self):
        start = time.time()
        rows = ["turn red z 4 7", "halt red m 1 7", "change red out blue home m 1 9", "apart red out blue out m 10"] * 100
        plan = Plan(CROSS + "\n" + "\n".join(rows + ["halt red m 1 1"]))
        self.assertEqual(len(plan.net.spans), 22)
        self.assertLess(time.time() - start, 1)


class NetTest(unittest.TestCase):

    def test_one_line_of_three_places(self):
        plan = Plan("beat 20\nline a p 3 4 q 5 7 r\nhalt a q 0 1\nturn a p 2 6")
        self.assertEqual(plan.net, Net(20, 8, (
            (0, 1, 3, 4), (2, 3, 5, 7), (1, 2, 0, 1), (3, 4, 1, 2),
            (4, 5, 5, 7), (6, 7, 3, 4), (5, 6, 0, 1), (7, 0, 2, 6),
        )))

    def test_all_kinds_of_rows(self):
        lines = [("red", ["a", "m", "z"]), ("blue", ["b", "m", "c", "z"])]
        runs = {"red": [(3, 4), (5, 6)], "blue": [(3, 5), (2, 2), (7, 9)]}
        stays = {("blue", "c"): (0, 3), ("red", "z"): (4, 7)}
        links = [
            (("red", "out", "m", "arr"), ("blue", "home", "m", "dep"), (1, 9)),
            (("red", "out", "m", "dep"), ("blue", "out", "m", "dep"), (10, 20)),
        ]
        spans = slow_spans(lines, runs, stays, links)
        self.assertEqual(len(spans), 8 + 12 + 2)
        self.assertEqual(Plan(CROSS).net, Net(30, 20, spans))
        # A change beside the turn, with its bounds and with others.
        self.assertEqual(Plan(CROSS.replace("home z 4 7", "home z 4 8")).net.spans, spans + ((3, 4, 4, 8),))

    def test_later_rows_ahead_of_earlier_ones(self):
        begin = "beat 20\nline a p 3 4 q 5 7 r\n"
        for rows, spans in [
            ("halt a q 3 4\nhalt a q 5 6", (5, 6)), ("halt a q 5 6\nhalt a q 3 4", (3, 4)), ("halt a q 5 6\nturn a p 0 0\nhalt a q 1 2", (1, 2)),
        ]:
            net = Plan(begin + rows).net
            self.assertEqual((net.spans[2][2:], net.spans[6][2:]), (spans, spans))
        net = Plan(begin + "turn a p 3 4\nturn a r 5 6\nturn a p 7 8").net
        self.assertEqual((net.spans[3][2:], net.spans[7][2:]), ((5, 6), (7, 8)))
        # A change that is told ahead of the turn is still the one that is left out.
        net = Plan(begin + "change a out a home r 5 6\nturn a r 5 6").net
        self.assertEqual((len(net.spans), net.spans[3]), (8, (3, 4, 5, 6)))

    def test_what_stands_there_already_is_left_out(self):
        rows = ["change red out blue home m 1 9"] * 3 + ["apart blue out red out m 10", "apart red out blue out m 10"]
        net = Plan("\n".join([CROSS] + rows)).net
        self.assertEqual(net.spans[:22], Plan(CROSS).net.spans)
        self.assertEqual(net.spans[22:], ((10, 2, 10, 20),))

    def test_plans_made_by_chance(self):
        chance = random.Random(130)
        for _ in range(200):
            text, lines, net = some_plan(chance)
            plan = Plan(text)
            self.assertEqual(plan.net, net, text)
            self.assertEqual(plan.lines(), [name for name, places in lines])
            events = slow_events(lines)
            self.assertEqual([plan.names(event) for event in range(net.events)], events)
            for number, told in enumerate(events):
                self.assertEqual(plan.event(*told), number)
            for name, places in lines:
                ring = plan.ring(name)
                first = plan.event(name, "out", places[0], "dep")
                self.assertEqual(way_ends(net, ring), (first, first))
                ends = [net.spans[index][:2] for index, forth in ring]
                many = 4 * (len(places) - 1)
                self.assertEqual(ends, [(first + at, first + (at + 1) % many) for at in range(many)])
                self.assertTrue(all([forth for index, forth in ring]))
                # The spans of the line itself, not changes between the same events.
                begin = 0 if name == lines[0][0] else 4 * (len(lines[0][1]) - 1)
                self.assertEqual(sorted([index for index, forth in ring]), list(range(begin, begin + many)))


class AskedTest(unittest.TestCase):

    def test_event(self):
        plan = Plan(CROSS)
        self.assertEqual(plan.event("red", "out", "a", "dep"), 0)
        self.assertEqual(plan.event("blue", "home", "b", "arr"), 19)
        for told in [
            ("red", "out", "a", "arr"), ("red", "out", "z", "dep"), ("red", "home", "z", "arr"), ("red", "home", "a", "dep"),
            ("green", "out", "a", "dep"), ("red", "in", "a", "dep"), ("red", "out", "b", "dep"), ("red", "out", "a", "stop"),
            ("out", "red", "a", "dep"), ("Red", "out", "a", "dep"), ("", "", "", ""), ("red", "out", "a", ""), (0, 0, 0, 0),
        ]:
            self.assertEqual(error_of(plan.event, *told), ("NoEvent",))
        right = ("red", "out", "a", "dep")
        for thing in things():
            for at in range(4):
                self.assertEqual(error_of(plan.event, *(right[:at] + (thing,) + right[at + 1:])), ("NoEvent",))
            self.assertEqual(error_of(plan.event, thing, thing, thing, thing), ("NoEvent",))

    def test_names(self):
        plan = Plan(SHORT)
        told = [plan.names(event) for event in range(4)]
        self.assertEqual(told, [
            ("a", "out", "p", "dep"), ("a", "out", "q", "arr"), ("a", "home", "q", "dep"), ("a", "home", "p", "arr"),
        ])
        for thing in things() + [4, 24]:
            error = error_of(plan.names, thing)
            self.assertEqual(error[0], "BadEvent")
            self.assertIs(error[1], thing)

    def test_lines(self):
        plan = Plan(CROSS)
        self.assertEqual(plan.lines(), ["red", "blue"])
        plan.lines().append("green")
        self.assertEqual(plan.lines(), ["red", "blue"])

    def test_rings_and_trains(self):
        plan = Plan(SHORT)
        self.assertEqual(plan.ring("a"), ((0, True), (1, True), (2, True), (3, True)))
        plan = Plan("beat 20\nline a p 3 4 q 5 7 r")
        told = (0, 2, 1, 3, 4, 6, 5, 7)
        self.assertEqual(plan.ring("a"), tuple([(index, True) for index in told]))
        plan = Plan("beat 10\nline a p 23 23 q\nline b q 3 3 r")
        self.assertEqual(plan.ring("b"), ((4, True), (5, True), (6, True), (7, True)))
        timetable = (0, 3, 5, 8, 1, 4, 6, 9)
        self.assertEqual(plan.trains("a", timetable), 5)
        self.assertEqual(plan.trains("b", timetable), 1)
        half = tuple([moment + Ratio(1, 2) for moment in timetable])
        self.assertEqual(plan.trains("a", half), 5)
        self.assertIs(type(plan.trains("a", half)), int)

    def test_no_line(self):
        plan = Plan(SHORT)
        for thing in things() + ["A", "aa", "p", "beat", "out"]:
            for call in (plan.ring, lambda name: plan.trains(name, None), lambda name: plan.meets(name, None)):
                error = error_of(call, thing)
                self.assertEqual(error[0], "NoLine")
                self.assertIs(error[1], thing)
            self.assertIs(error_of(plan.exchanged, thing, "a")[1], thing)
            self.assertIs(error_of(plan.exchanged, "a", thing)[1], thing)
            self.assertEqual(error_of(plan.exchanged, "b", thing), ("NoLine", "b"))
            self.assertEqual(error_of(plan.exchanged, "a", thing)[0], "NoLine")

    def test_no_timetable(self):
        plan = Plan(SHORT)
        for thing in things() + [(0, 3, 7, 9), [0, 3, 5, 8], (0, 3, 5)]:
            self.assertEqual(error_of(plan.trains, "a", thing), ("BadTimetable",))
            self.assertEqual(error_of(plan.meets, "a", thing), ("BadTimetable",))

    def test_equality(self):
        self.assertTrue(Plan(SHORT) == Plan("" + SHORT))
        self.assertFalse(Plan(SHORT) != Plan(SHORT))
        # The same net, by another text.
        other = Plan(SHORT + "\nturn a q 1 3")
        self.assertEqual(other.net, Plan(SHORT).net)
        self.assertFalse(other == Plan(SHORT))
        self.assertTrue(other != Plan(SHORT))
        for thing in things() + [SHORT, Plan(SHORT).net]:
            self.assertFalse(Plan(SHORT) == thing)
            self.assertFalse(thing == Plan(SHORT))
        self.assertEqual(copy.deepcopy(Plan(SHORT)), Plan(SHORT))


class LikenessTest(unittest.TestCase):

    def test_mirror(self):
        plan = Plan("beat 20\nline a p 3 4 q 5 7 r\nline b q 2 4 x")
        told = plan.mirror()
        self.assertEqual(told, ((7, 6, 5, 4, 3, 2, 1, 0, 11, 10, 9, 8), False))
        for name, places in [("a", "pqr"), ("b", "qx")]:
            for place in places:
                for way, other, kind, against in [("out", "home", "dep", "arr"), ("out", "home", "arr", "dep")]:
                    if (place, kind) not in [(places[0], "arr"), (places[-1], "dep")]:
                        event = plan.event(name, way, place, kind)
                        self.assertEqual(told[0][event], plan.event(name, other, place, against))
                        self.assertEqual(told[0][told[0][event]], event)

    def test_no_mirror(self):
        # A change out without one home, and beside one home the other way round.
        begin = "beat 20\nline a p 3 4 q 5 7 r\nline b q 2 4 x\n"
        out = "change a out b out q 1 3"
        self.assertIsNone(Plan(begin + out).mirror())
        self.assertIsNone(Plan(begin + "change b home a home q 1 3").mirror())
        self.assertIsNotNone(Plan(begin + out + "\nchange b home a home q 1 3").mirror())
        self.assertIsNone(Plan(begin + out + "\nchange b home a home q 1 4").mirror())
        self.assertIsNone(Plan(begin + "apart a out b out q 3").mirror())

    def test_exchanged(self):
        begin = "beat 20\nline a p 3 4 q\nline b x 3 4 y\nline c p 3 4 q 3 4 r\nline d q 3 5 p\n"
        plan = Plan(begin[:-1])
        same = tuple(range(plan.net.events))
        told = (4, 5, 6, 7, 0, 1, 2, 3) + same[8:]
        self.assertEqual(plan.exchanged("a", "b"), (told, True))
        self.assertEqual(plan.exchanged("b", "a"), (told, True))
        for name in plan.lines():
            self.assertEqual(plan.exchanged(name, name), (same, True))
        self.assertIsNone(plan.exchanged("a", "c"))
        self.assertIsNone(plan.exchanged("c", "b"))
        # As many places, but other bounds.
        self.assertIsNone(plan.exchanged("a", "d"))
        self.assertIsNone(Plan(begin + "turn b x 1 3").exchanged("a", "b"))
        self.assertIsNotNone(Plan(begin + "turn b x 1 3\nturn a p 1 3").exchanged("a", "b"))
        # Ends count in their order: the first place of the one is led to the first place of the other.
        self.assertIsNone(Plan(begin + "turn b y 1 3\nturn a p 1 3").exchanged("a", "b"))
        self.assertIsNone(Plan(begin + "change c home a out p 1 2").exchanged("a", "b"))

    def test_are_likenesses(self):
        chance = random.Random(131)
        seen = {}
        for _ in range(200):
            text, lines, net = some_plan(chance)
            plan = Plan(text)
            told = plan.mirror()
            moved = []
            for name, way, place, kind in slow_events(lines):
                moved.append(plan.event(name, "home" if way == "out" else "out", place, "dep" if kind == "arr" else "arr"))
            self.assertEqual(told, (tuple(moved), False) if is_likeness(net, (tuple(moved), False)) else None)
            seen[("mirror", told is None)] = True
            if len(lines) == 2 and len(lines[0][1]) == len(lines[1][1]):
                names = {lines[0][0]: lines[1], lines[1][0]: lines[0]}
                places = dict(lines)
                moved = []
                for name, way, place, kind in slow_events(lines):
                    other = names[name]
                    moved.append(plan.event(other[0], way, other[1][places[name].index(place)], kind))
                right = (tuple(moved), True) if is_likeness(net, (tuple(moved), True)) else None
                self.assertEqual(plan.exchanged(lines[0][0], lines[1][0]), right)
        self.assertEqual(len(seen), 2)


def slow_meets(plan, places, timetable, finer):
    """The moments and runs of meets of a plan of one line, by counting through the parts of the beat.

    All of them are whole numbers divided by finer.
    """
    beat = plan.net.beat
    found = []
    for at in range(beat * finer):
        moment = Fraction(at, finer)
        for run in range(len(places) - 1):
            spots = []
            for way, ends in (("out", places[run:run + 2]), ("home", places[run:run + 2][::-1])):
                start = fraction(timetable[plan.event("a", way, ends[0], "dep")])
                end = fraction(timetable[plan.event("a", way, ends[1], "arr")])
                low = [span for span in plan.net.spans if span[0] == plan.event("a", way, ends[0], "dep")][0][2]
                length = low + (end - start - low) % beat
                # How far trains that have left some beats ago are now.
                there = [(moment - start) % beat + more * beat for more in range(int(length // beat) + 2)]
                spots.append([gone / length if way == "out" else 1 - gone / length for gone in there if 0 < gone < length])
            if set(spots[0]) & set(spots[1]):
                found.append((moment, places[run], places[run + 1]))
    return found


def some_line(chance):
    """A plan of one line made by chance, its places, and into how many parts its minutes are to be divided."""
    beat = chance.randint(3, 8)
    places = ["p", "q", "r"][:chance.choice([2, 2, 3])]
    runs = []
    for _ in places[1:]:
        low = chance.randint(1, 2 * beat)
        runs.append((low, low + beat - 2))
    rows = [f"beat {beat}", run_row("a", places, runs)]
    rows += [f"turn a {place} 0 {beat - 2}" for place in (places[0], places[-1])]
    rows += [f"halt a {place} 0 {beat - 2}" for place in places[1:-1]]
    return Plan("\n".join(rows)), places, chance.choice([1, 1, 2, 3])


class MeetsTest(unittest.TestCase):

    def test_examples(self):
        # Out from 0 to 3, home from 5 to 8: they do not meet on their way.
        self.assertEqual(Plan(SHORT).meets("a", (0, 3, 5, 8)), [])
        plan = Plan("beat 10\nline a p 8 8 q\nturn a p 0 8\nturn a q 0 8")
        for timetable, told in [
            ((0, 8, 9, 7), Ratio(7, 2)), ((0, 8, 0, 8), 4), ((0, 8, 2, 0), 5), ((5, 3, 5, 3), 9), ((6, 4, 6, 4), 0),
            ((Ratio(1, 3), Ratio(25, 3), Ratio(1, 3), Ratio(25, 3)), Ratio(13, 3)), ((Ratio(4, 1), 2, 5, Ratio(3, 1)), Ratio(17, 2)),
        ]:
            self.assertEqual(plan.meets("a", timetable), [(told, "p", "q")])

    def test_ends_are_left_out(self):
        # The train home leaves q as the one out comes there, and comes to p as the next one leaves.
        plan = Plan("beat 10\nline a p 5 6 q\nturn a q 0 8\nturn a p 2 10")
        self.assertEqual(plan.meets("a", (0, 5, 5, 0)), [])
        # An eighth of a minute longer, and they meet on their way.
        told = plan.meets("a", (0, Ratio(41, 8), Ratio(41, 8), Ratio(1, 8)))
        self.assertEqual(told, [(Ratio(41, 648), "p", "q")])
        self.assertEqual(plan.meets("a", (0, Ratio(41, 8), Ratio(41, 8), Ratio(81, 8) - 10)), told)

    def test_runs_longer_than_the_beat(self):
        # Trains out and home each minute and a half, at the ends too, which are left out.
        plan = Plan("beat 3\nline a p 6 6 q\nturn a q 0 1\nturn a p 0 1")
        self.assertEqual(plan.meets("a", (0, 0, 0, 0)), [(0, "p", "q"), (Ratio(3, 2), "p", "q")])
        plan = Plan("beat 3\nline a p 3 3 q\nturn a q 0 1\nturn a p 0 1")
        self.assertEqual(plan.meets("a", (0, 0, 0, 0)), [(Ratio(3, 2), "p", "q")])
        plan = Plan("beat 3\nline a p 7 7 q\nturn a q 2 2\nturn a p 2 2")
        self.assertEqual(plan.meets("a", (0, 1, 0, 1)), [(Ratio(1, 2), "p", "q"), (2, "p", "q")])

    def test_the_order(self):
        # By moments, then by runs: the runs stand as they are gone out, not as the places are called.
        plan = Plan("beat 10\nline a q 6 6 p 6 6 b\nhalt a p 4 4\nturn a q 4 4\nturn a b 4 4")
        self.assertEqual(plan.meets("a", (0, 6, 0, 6, 0, 6, 0, 6)), [(3, "q", "p"), (3, "p", "b")])
        plan = Plan("beat 10\nline a q 6 6 p 6 6 b\nhalt a p 2 10\nturn a q 2 10\nturn a b 2 10")
        self.assertEqual(plan.meets("a", (5, 1, 0, 6, 0, 6, 5, 1)), [(3, "p", "b"), (8, "q", "p")])
        third = Ratio(1, 3)
        told = plan.meets("a", (0, 6, third, third + 6, third, third + 6, 0, 6))
        self.assertEqual(told, [(3, "q", "p"), (third + 3, "p", "b")])
        told = plan.meets("a", (third, third + 6, Ratio(2, 7), Ratio(44, 7), Ratio(2, 7), Ratio(44, 7), third, third + 6))
        self.assertEqual(told, [(Ratio(23, 7), "p", "b"), (third + 3, "q", "p")])

    def test_another_line_changes_nothing(self):
        rows = "line a p 6 6 q\nturn a q 4 4\nturn a p 4 4"
        plan = Plan("beat 10\nline b q 2 3 p\n" + rows + "\nchange a out b out q 1 8")
        self.assertEqual([plan.names(event)[0] for event in range(8)], ["b"] * 4 + ["a"] * 4)
        timetable = (0, 3, 5, 8, 1, 7, 1, 7)
        self.assertEqual(plan.meets("a", timetable), [(4, "p", "q")])
        self.assertEqual(plan.meets("a", timetable), Plan("beat 10\n" + rows).meets("a", timetable[4:]))
        self.assertEqual(plan.meets("b", timetable), [])

    def test_counting_through_the_beat(self):
        chance = random.Random(134)
        seen = {}
        for _ in range(200):
            plan, places, parts = some_line(chance)
            moments = tuple([ratio(Fraction(chance.randrange(plan.net.beat * parts), parts)) for _ in range(plan.net.events)])
            if not is_timetable(plan.net, moments):
                continue
            row = lengths(plan.net, moments)
            finer = parts
            for at in range(len(places) - 1):
                both = [fraction(row[plan.ring("a")[index][0]]) for index in (2 * at, -2 - 2 * at)]
                finer *= (sum(both) * parts).numerator
            if finer * plan.net.beat > 4000:
                continue
            told = plan.meets("a", moments)
            self.assertEqual([(fraction(moment), one, other) for moment, one, other in told], slow_meets(plan, places, moments, finer))
            self.assertTrue(all([is_plain(moment) for moment, one, other in told]))
            seen[min(len(told), 6)] = seen.get(min(len(told), 6), 0) + 1
        self.assertGreater(len(seen), 4)
        self.assertGreater(sum(seen.values()), 30)

    def test_great_denominators_and_many_meets(self):
        plan = Plan("beat 3\n" + run_row("a", ["a", "b", "c", "d", "e", "f"], [(2879, 2880)] * 5))
        part = Ratio(1, 10 ** 39 + 7)
        row = [2879 + part] * 5 + [1] * 5 + [2880 - part] * 5 + [1] * 4 + [2]
        name, timetable = from_lengths(plan.net, row)
        self.assertEqual(name, "timetable")
        start = time.time()
        told = plan.meets("a", timetable)
        self.assertLess(time.time() - start, 2)
        # A train out takes 2879 minutes and meets those that leave in 2879 + 2880 minutes, each third one.
        for run in [("a", "b"), ("b", "c"), ("c", "d"), ("d", "e"), ("e", "f")]:
            self.assertIn(len([meeting for meeting in told if meeting[1:] == run]), (1919, 1920))
        moments = [fraction(moment) for moment, one, other in told]
        self.assertEqual(moments, sorted(moments))
        self.assertTrue(0 <= moments[0] and moments[-1] < 3)


if __name__ == "__main__":
    unittest.main()
