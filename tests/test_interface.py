"""The interface: each name stands in its file, is defined there, and takes the arguments that it should take."""

import importlib
import inspect
import unittest

from likespans.nets import Net
from likespans.plans import Plan
from likespans.ratios import Ratio

FUNCTIONS = {
    "nets": "pieces(net)",
    "ways": "way_ends(net, way) backward(net, way) tree(net) tree_way(net, one, other) base(net) by_base(net, ring)",
    "timetables": "moments_fault(net, thing) is_timetable(net, thing) lengths(net, timetable) shifted(net, timetable, number) "
                  "from_lengths(net, row) shift_between(net, one, other)",
    "islands": "rounds(net, timetable, ring) rounds_by(net, island, ring) all_whole(net) island_of(net, timetable) held(net, row) "
               "leader(net, island) last(net, island) places(net, timetable) islands(net) timetables(net, island) "
               "is_barring(net, row, thing)",
    "moving": "moved(net, timetable, move) led(net, timetable, moves) way_to(net, one, other) is_way_to(net, one, other, thing)",
    "likes": "likeness_fault(net, thing) is_likeness(net, thing) spans_led(net, likeness) ring_led(net, likeness, ring) "
             "behind(net, one, other) back(net, likeness) likenesses(net) group(net, lot) like_events(net, lot) like_spans(net, lot) "
             "order(net, likeness)",
    "images": "image(net, likeness, timetable) image_island(net, likeness, island) is_kept(net, lot, island) islands_alike(net, lot) "
              "kept_islands(net, likeness)",
    "evening": "mean_lengths(net, lot, timetable) evened(net, lot, timetable) evened_by_moves(net, lot, timetable) "
               "is_evened(net, lot, timetable, thing) is_evened_by_moves(net, lot, timetable, thing) is_even(net, lot, thing) "
               "shifts(net, lot, timetable) even_islands(net, lot) least_parts(net, lot, island, most)",
    "spacing": "spacing(net, likeness, timetable, event) mirror_moments(net, likeness, timetable, event)",
    "journeys": "takes(net, timetable, way) quickest(net, timetable, one, other) there_and_back(net, likeness, timetable) "
                "quickest_unlike(net, likeness, timetable)",
    "prices": "prices_fault(net, thing) cost(net, prices, timetable) are_alike(net, lot, prices)",
    "bests": "best(net, prices, island) best_of_all(net, prices) is_best(net, prices, island, thing) better_move(net, prices, timetable) "
             "best_even(net, lot, prices) evenness_costs(net, lot, prices)",
    "folding": "folding(net, likeness) folded(net, likeness) unfolded(net, likeness, timetable, times) folds_to(net, likeness, timetable)",
    "texts": "number_text(number) net_text(net) timetable_text(net, timetable) likeness_text(net, likeness) read_net(text) "
             "read_timetable(net, text) read_likeness(net, text)",
    "slack": "slack(net, timetable) widest(net, island) widest_of_all(net) is_widest(net, island, thing) widest_even(net, lot)",
    "windows": "window(net, island, one, other) word(net, span) is_word(net, span, thing)",
    "lateness": "late(net, timetable, event, minutes) is_late(net, timetable, event, minutes, thing) "
                "late_until(net, timetable, event, minutes, beats)",
}
CLASSES = {
    ("ratios", "Ratio"): "__init__(top, bottom) __add__(other) __radd__(other) __sub__(other) __rsub__(other) __mul__(other) "
                         "__rmul__(other) __neg__() __eq__(other) over(number) less(number) sign() whole() rest(beat)",
    ("nets", "Net"): "__init__(beat, events, spans) __eq__(other)",
    ("plans", "Plan"): "__init__(text) __eq__(other) event(name, way, place, kind) names(event) lines() ring(name) "
                       "trains(name, timetable) mirror() exchanged(one, other) meets(name, timetable)",
    ("desks", "Desk"): "__init__(net) put(span) strike(index) bounds(index, low, high) with_events(many) back() now() islands() "
                       "even(lot) still(timetable) lost(lot) trying(deed)",
}


def told(text):
    """The names and the arguments that a row of calls tells."""
    found = []
    for part in text.split(")"):
        if part.strip():
            name, passed = part.split("(")
            found.append((name.strip(), [word.strip() for word in passed.split(",") if word.strip()]))
    return found


class InterfaceTest(unittest.TestCase):

    def test_functions(self):
        for file, text in FUNCTIONS.items():
            module = importlib.import_module("likespans." + file)
            for name, passed in told(text):
                function = getattr(module, name)
                self.assertTrue(inspect.isfunction(function), name)
                self.assertEqual(function.__module__, "likespans." + file, name)
                self.assertEqual(list(inspect.signature(function).parameters), passed, name)

    def test_classes(self):
        for (file, name), text in CLASSES.items():
            own = getattr(importlib.import_module("likespans." + file), name)
            self.assertEqual(own.__module__, "likespans." + file)
            self.assertEqual(own.__bases__, (object,))
            for method, passed in told(text):
                self.assertIn(method, vars(own), (name, method))
                self.assertEqual(list(inspect.signature(vars(own)[method]).parameters), ["self"] + passed, (name, method))

    def test_attributes(self):
        ratio, net = Ratio(6, -4), Net(5, 2, [(0, 1, 1, 3)])
        self.assertEqual((ratio.top, ratio.bottom), (-3, 2))
        self.assertEqual((net.beat, net.events, net.spans), (5, 2, ((0, 1, 1, 3),)))
        plan = Plan("beat 10\nline a p 2 4 q")
        self.assertEqual((plan.text, plan.net.beat), ("beat 10\nline a p 2 4 q", 10))


if __name__ == "__main__":
    unittest.main()
