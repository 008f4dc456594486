"""The whole program: what its parts tell of the same nets, beside one another."""

import copy
import random
import unittest

from likespans.bests import best, best_even, best_of_all, better_move, evenness_costs, is_best
from likespans.desks import Desk
from likespans.evening import (
    even_islands, evened, evened_by_moves, is_even, is_evened, is_evened_by_moves, least_parts, mean_lengths, shifts,
)
from likespans.folding import folded, folding, folds_to, unfolded
from likespans.images import image, image_island, is_kept, islands_alike, kept_islands
from likespans.islands import (
    all_whole, held, is_barring, island_of, islands, last, leader, places, rounds, rounds_by, timetables,
)
from likespans.journeys import quickest, quickest_unlike, takes, there_and_back
from likespans.lateness import is_late, late, late_until
from likespans.likes import back, group, is_likeness, like_events, like_spans, likenesses, order, ring_led, spans_led
from likespans.moving import is_way_to, led, way_to
from likespans.nets import Net, pieces
from likespans.plans import Plan
from likespans.prices import are_alike, cost
from likespans.ratios import Ratio
from likespans.slack import is_widest, slack, widest, widest_even, widest_of_all
from likespans.spacing import mirror_moments, spacing
from likespans.texts import likeness_text, net_text, read_likeness, read_net, read_timetable, timetable_text
from likespans.timetables import from_lengths, is_timetable, lengths, shift_between, shifted
from likespans.windows import is_word, window, word
from likespans.ways import backward, base
from tests.slow import alike_net, some_net, some_prices
from tests.test_slack import wide_net
from tests.things import fraction

# Two like lines that cross at m, with changes between them in all ways.
PLAN = "\n".join([
    "beat 12", "line red a 3 4 m 2 4 z", "line blue b 3 4 m 2 4 y",
    "halt red m 1 2", "halt blue m 1 2", "turn red a 2 6", "turn blue b 2 6", "turn red z 2 6", "turn blue y 2 6",
    "change red out blue out m 1 9", "change blue out red out m 1 9",
    "change red home blue home m 1 9", "change blue home red home m 1 9",
])


class OneNetTest(unittest.TestCase):
    """One net gone through by all doors that belong together."""

    def setUp(self):
        self.plan = Plan(PLAN)
        self.net = self.plan.net
        self.mirror = self.plan.mirror()
        self.swap = self.plan.exchanged("red", "blue")
        self.prices = [tuple([(at - 1) ** 2 for at in range(high - low + 1)]) for i, j, low, high in self.net.spans]

    def test_the_plan(self):
        net = self.net
        self.assertEqual((net.beat, net.events, len(net.spans)), (12, 16, 20))
        self.assertIsNotNone(self.swap)
        # The mirror of a change out goes home between the same lines the other way.
        self.assertIsNotNone(self.mirror)
        self.assertEqual(pieces(net), [list(range(16))])
        self.assertEqual(len(group(net, [self.mirror, self.swap])), 4)
        self.assertEqual([order(net, likeness) for likeness in (self.mirror, self.swap)], [2, 2])

    def test_islands_and_timetables(self):
        net = self.net
        rows = islands(net)
        self.assertGreater(len(rows), 3)
        alike = islands_alike(net, [self.mirror, self.swap])
        self.assertEqual(sorted([island for some in alike for island in some]), rows)
        kept = [len([1 for island in rows if is_kept(net, [likeness], island)]) for likeness in group(net, [self.mirror, self.swap])]
        self.assertEqual([kept_islands(net, likeness) for likeness in group(net, [self.mirror, self.swap])], kept)
        self.assertEqual(sum(kept), len(alike) * len(kept))
        for island in rows[::7]:
            first, final = leader(net, island), last(net, island)
            self.assertEqual((island_of(net, first), island_of(net, final)), (island, island))
            told = way_to(net, first, final)
            self.assertTrue(is_way_to(net, first, final, told))
            self.assertEqual(led(net, first, told[1]), final)
            self.assertEqual(held(net, island), ("timetable", first))
            self.assertEqual([rounds(net, final, ring) for ring in base(net)], list(island))
            for other in rows[::11]:
                if other != island:
                    self.assertTrue(is_way_to(net, first, leader(net, other), way_to(net, first, leader(net, other))))

    def test_means(self):
        net, lot = self.net, [self.mirror, self.swap]
        even = even_islands(net, lot)
        self.assertTrue(0 < len(even) < len(islands(net)))
        for island in islands(net)[::5]:
            timetable = leader(net, island)
            told = evened(net, lot, timetable)
            self.assertTrue(is_evened(net, lot, timetable, told))
            by_moves = evened_by_moves(net, lot, timetable)
            self.assertTrue(is_evened_by_moves(net, lot, timetable, by_moves))
            self.assertEqual(by_moves[0] == "even", island in even)
            if island in even:
                self.assertEqual(told[0], "even")
                self.assertTrue(is_even(net, lot, told[1]))
                self.assertEqual(lengths(net, told[1]), mean_lengths(net, lot, timetable))
                self.assertEqual(island_of(net, told[1]), island)
                self.assertEqual(len(shifts(net, lot, told[1])), 4)
                self.assertIsNone(there_and_back(net, self.mirror, told[1]))
                self.assertEqual(quickest_unlike(net, self.mirror, told[1]), [])
                one, other = mirror_moments(net, self.mirror, told[1], 0)
                self.assertEqual(fraction(other) - fraction(one), 6)
                self.assertEqual(spacing(net, self.swap, told[1], 0)[0], 2)
                name, parts, timetable = least_parts(net, lot, island, 4)
                self.assertTrue(is_even(net, lot, timetable))

    def test_prices_and_slack(self):
        net, lot, prices = self.net, [self.mirror, self.swap], self.prices
        self.assertTrue(are_alike(net, lot, prices))
        costs = {}
        wide = {}
        for island in islands(net):
            costs[island] = best(net, prices, island)
            wide[island] = widest(net, island)
            self.assertTrue(is_best(net, prices, island, costs[island]))
            self.assertTrue(is_widest(net, island, wide[island]))
            self.assertIsNone(better_move(net, prices, costs[island][1]))
        least = min([told[0] for told in costs.values()])
        self.assertEqual(best_of_all(net, prices), (least, min([island for island in costs if costs[island][0] == least])))
        most = max([fraction(told[0]) for told in wide.values()])
        number, island = widest_of_all(net)
        self.assertEqual((fraction(number), island), (most, min([one for one in wide if fraction(wide[one][0]) == most])))
        number, island, timetable = best_even(net, lot, prices)
        self.assertEqual(number, min([costs[one][0] for one in even_islands(net, lot)]))
        self.assertEqual((cost(net, prices, timetable), island_of(net, timetable)), (number, island))
        self.assertEqual(evenness_costs(net, lot, prices), number - least)
        number, island, timetable = widest_even(net, lot)
        self.assertEqual(fraction(number), max([fraction(wide[one][0]) for one in even_islands(net, lot)]))
        self.assertEqual((slack(net, timetable), island_of(net, timetable)), (number, island))
        self.assertTrue(is_even(net, lot, timetable))

    def test_windows_are_what_best_timetables_keep_to(self):
        net = self.net
        rows = islands(net)
        for one, other in [(0, 5), (3, 12), (15, 8)]:
            told = [window(net, island, one, other) for island in rows]
            for island, (least, greatest) in zip(rows, told):
                for timetable in (leader(net, island), last(net, island), best(net, self.prices, island)[1]):
                    row = places(net, timetable)
                    self.assertTrue(least <= row[other] - row[one] <= greatest)
            for low in range(0, 12, 3):
                span = (one, other, low, low + 4)
                answer = word(net, span)
                self.assertTrue(is_word(net, span, answer))
                # A further net with this span has just the timetables that keep it.
                desk = Desk(net)
                desk.put(span)
                if answer[0] == "open":
                    self.assertEqual((desk.still(answer[1]), desk.still(answer[2])), (None, 20))
                else:
                    self.assertEqual(answer[1], told)
                    broken = [desk.still(leader(net, island)) for island in rows]
                    self.assertEqual(broken, [None if answer[0] == "sure" else 20] * len(rows))

    def test_lateness(self):
        net = self.net
        for island in islands(net)[::9]:
            for timetable in (leader(net, island), widest(net, island)[1]):
                for event in (0, 7, 12):
                    told = late(net, timetable, event, 5)
                    self.assertTrue(is_late(net, timetable, event, 5, told))
                    if told[0] == "ends":
                        found = late_until(net, timetable, event, 5, 40)
                        row = [max([fraction(number) for one, beat, number in found if one == other] + [0]) for other in range(16)]
                        self.assertEqual([fraction(number) for number in told[1]], row)

    def test_texts(self):
        net = self.net
        self.assertEqual(read_net(net_text(net)), net)
        for likeness in group(net, [self.mirror, self.swap]):
            self.assertEqual(read_likeness(net, likeness_text(net, likeness)), likeness)
        for island in islands(net)[::9]:
            timetable = widest(net, island)[1]
            self.assertEqual(read_timetable(net, timetable_text(net, timetable)), timetable)

    def test_folds(self):
        net = self.net
        # Both lines in one, with half the beat: but their changes are too wide for it.
        self.assertEqual(folding(net, self.swap), 0)
        net = Plan(PLAN.replace("1 9", "1 5").replace("2 6", "2 5")).net
        self.assertEqual(folding(net, self.swap), 2)
        other, events, steps = folded(net, self.swap)
        self.assertEqual((other.beat, other.events, len(other.spans)), (6, 8, 10))
        kinds = {}
        for island in islands(other):
            timetable = leader(other, island)
            for times in (0, 1):
                name, told = unfolded(net, self.swap, timetable, times)
                kinds[name] = True
                if name == "timetable":
                    self.assertTrue(is_even(net, [self.swap], told))
                    self.assertEqual(folds_to(net, self.swap, told), (timetable, times))
                    self.assertEqual(spacing(net, self.swap, told, 0)[:2], (2, times))
        self.assertEqual(sorted(kinds), ["ring", "timetable"])

    def test_nothing_is_changed(self):
        net, kept = self.net, copy.deepcopy(self.net)
        lot, prices = [self.mirror, self.swap], copy.deepcopy(self.prices)
        timetable = leader(net, islands(net)[0])
        for call, passed in [
            (evened, (net, lot, timetable)), (best_even, (net, lot, self.prices)), (widest_even, (net, lot)), (shifted, (net, timetable, 5)),
            (islands_alike, (net, lot)), (like_events, (net, lot)), (like_spans, (net, lot)), (late_until, (net, timetable, 0, 5, 9)),
            (word, (net, (0, 5, 1, 2))), (widest_of_all, (net,)), (evenness_costs, (net, lot, self.prices)), (all_whole, (Plan(PLAN.split("\nline b")[0]).net,)),
        ]:
            self.assertEqual(call(*passed), call(*passed), call)
        self.assertEqual((net, lot, self.prices), (kept, [self.mirror, self.swap], prices))


def called_otherwise(chance, net):
    """The same net with its events called otherwise and its spans in another order; the new names and places."""
    names = chance.sample(range(net.events), net.events)
    indexes = chance.sample(range(len(net.spans)), len(net.spans))
    spans = [None] * len(net.spans)
    for (i, j, low, high), index in zip(net.spans, indexes):
        spans[index] = (names[i], names[j], low, high)
    return Net(net.beat, net.events, spans), names, indexes


def moments_called(names, timetable):
    """A timetable of the net with its events called otherwise."""
    moments = [0] * len(timetable)
    for name, moment in zip(names, timetable):
        moments[name] = moment
    return tuple(moments)


class CalledOtherwiseTest(unittest.TestCase):
    """The same net with its events called otherwise and its spans in another order."""

    def nets(self, seed, many):
        chance = random.Random(seed)
        for turn in range(many):
            net = some_net(chance) if turn % 2 else wide_net(chance)
            yield chance, net, *called_otherwise(chance, net)

    def test_timetables_and_islands(self):
        for chance, net, other, names, indexes in self.nets(190, 60):
            self.assertEqual(len(islands(net)), len(islands(other)))
            self.assertEqual(all_whole(net), all_whole(other))
            lists = sorted([sorted([names[event] for event in piece]) for piece in pieces(net)])
            self.assertEqual(lists, pieces(other))
            rings = [tuple([(indexes[index], forth) for index, forth in ring]) for ring in base(net)]
            seen = {}
            for island in islands(net):
                timetable = leader(net, island)
                there = moments_called(names, timetable)
                self.assertTrue(is_timetable(other, there))
                found = island_of(other, there)
                seen[found] = True
                self.assertEqual([rounds_by(other, found, ring) for ring in rings], list(island))
                self.assertEqual([lengths(other, there)[index] for index in indexes], list(lengths(net, timetable)))
                self.assertEqual(len(timetables(net, island)), len(timetables(other, found)))
                final = moments_called(names, last(net, island))
                self.assertEqual(len(way_to(net, timetable, last(net, island))[1]), len(way_to(other, there, final)[1]))
            self.assertEqual(sorted(seen), islands(other))

    def test_what_bars(self):
        for chance, net, other, names, indexes in self.nets(191, 60):
            backwards = {index: at for at, index in enumerate(indexes)}
            for _ in range(5):
                row = tuple([chance.randint(-2, 3) for _ in base(net)])
                name, told = held(net, row)
                rings = [tuple([(backwards[index], forth) for index, forth in ring]) for ring in base(other)]
                there = tuple([rounds_by(net, row, ring) for ring in rings])
                self.assertEqual(held(other, there)[0], name)
                if name == "ring":
                    self.assertTrue(is_barring(other, there, tuple([(indexes[index], forth) for index, forth in told])))

    def test_bests_slack_windows_and_lateness(self):
        for chance, net, other, names, indexes in self.nets(192, 60):
            if not net.spans or not islands(net):
                continue
            prices = some_prices(chance, net, [], 20)
            there = [None] * len(prices)
            for at, index in enumerate(indexes):
                there[index] = prices[at]
            self.assertEqual(best_of_all(net, prices)[0], best_of_all(other, there)[0])
            self.assertEqual(widest_of_all(net)[0], widest_of_all(other)[0])
            timetable = leader(net, chance.choice(islands(net)))
            moments = moments_called(names, timetable)
            island, found = island_of(net, timetable), island_of(other, moments)
            self.assertEqual(best(net, prices, island)[0], best(other, there, found)[0])
            number, wide, ring = widest(net, island)
            self.assertEqual(number, widest(other, found)[0])
            ring = tuple([(indexes[index], forth) for index, forth in ring])
            wide = moments_called(names, wide)
            # The first events of the pieces may be other ones there.
            for piece in pieces(other):
                first = wide[piece[0]]
                wide = tuple([(moment - first + 10 * Ratio(net.beat, 1)).rest(net.beat) if event in piece else moment for event, moment in enumerate(wide)])
            self.assertTrue(is_widest(other, found, (number, wide, ring)))
            one, two = chance.randrange(net.events), chance.randrange(net.events)
            told = quickest(net, timetable, one, two)
            again = quickest(other, moments, names[one], names[two])
            self.assertEqual(told and told[0], again and again[0])
            if told:
                self.assertEqual(takes(other, moments, tuple([(indexes[index], forth) for index, forth in told[1]])), told[0])
            name = late(net, timetable, one, 4)
            self.assertEqual(late(other, moments, names[one], 4)[0], name[0])
            if name[0] == "ends":
                self.assertEqual(late(other, moments, names[one], 4)[1], moments_called(names, name[1]))
            rows = sorted([(names[event], beat, minutes) for event, beat, minutes in late_until(net, timetable, one, 4, 6)])
            self.assertEqual(late_until(other, moments, names[one], 4, 6), rows)
            if one != two and any([one in piece and two in piece for piece in pieces(net)]):
                span = (one, two, 1, 2)
                self.assertEqual(word(net, span)[0], word(other, (names[one], names[two], 1, 2))[0])

    def test_likenesses_and_even_timetables(self):
        chance = random.Random(193)
        for _ in range(40):
            net, lot = alike_net(chance)
            other, names, indexes = called_otherwise(chance, net)
            there = []
            for moved, forth in lot:
                row = [0] * net.events
                for event, led_to in enumerate(moved):
                    row[names[event]] = names[led_to]
                there.append((tuple(row), forth))
            self.assertTrue(all([is_likeness(other, likeness) for likeness in there]))
            self.assertEqual(len(likenesses(net)), len(likenesses(other)))
            self.assertEqual(len(group(net, lot)), len(group(other, there)))
            lists = sorted([sorted([indexes[index] for index in alike]) for alike in like_spans(net, lot)])
            self.assertEqual(lists, like_spans(other, there))
            self.assertEqual(len(even_islands(net, lot)), len(even_islands(other, there)))
            self.assertEqual(sorted(map(len, islands_alike(net, lot))), sorted(map(len, islands_alike(other, there))))
            self.assertEqual([kept_islands(net, likeness) for likeness in lot], [kept_islands(other, likeness) for likeness in there])
            for island in islands(net)[:5]:
                timetable = leader(net, island)
                told = evened(net, lot, timetable)
                again = evened(other, there, moments_called(names, timetable))
                self.assertEqual(told[0], again[0])
                if told[0] == "even":
                    self.assertIsNotNone(shift_between(other, moments_called(names, told[1]), again[1]))


class ImagesTest(unittest.TestCase):
    """All that is told of the images of timetables by a likeness."""

    def cases(self, seed, many):
        """Nets made by chance, a likeness of each, and a timetable."""
        chance = random.Random(seed)
        for _ in range(many):
            net, lot = alike_net(chance)
            rows = islands(net)
            if rows:
                likeness = chance.choice(group(net, lot))
                timetable = chance.choice(timetables(net, chance.choice(rows))[:20])
                yield chance, net, lot, likeness, shifted(net, timetable, Ratio(chance.randint(0, 5), 2))

    def test_lengths_and_rounds(self):
        for chance, net, lot, likeness, timetable in self.cases(194, 80):
            told = image(net, likeness, timetable)
            row = lengths(net, timetable)
            self.assertEqual([lengths(net, told)[index] for index in spans_led(net, likeness)], list(row))
            self.assertEqual(island_of(net, told), image_island(net, likeness, island_of(net, timetable)))
            for ring in base(net):
                for way in (ring, backward(net, ring)):
                    self.assertEqual(rounds(net, told, ring_led(net, likeness, way)), rounds(net, timetable, way))
            self.assertEqual(image(net, back(net, likeness), told), timetable)
            self.assertEqual(from_lengths(net, lengths(net, told))[0], "timetable")

    def test_slack_costs_and_bests(self):
        for chance, net, lot, likeness, timetable in self.cases(195, 60):
            told = image(net, likeness, timetable)
            prices = some_prices(chance, net, lot, 20)
            self.assertEqual(slack(net, told), slack(net, timetable))
            self.assertEqual(cost(net, prices, told), cost(net, prices, timetable))
            one, other = island_of(net, timetable), island_of(net, told)
            self.assertEqual(widest(net, one)[0], widest(net, other)[0])
            self.assertEqual(best(net, prices, one)[0], best(net, prices, other)[0])
            number, wide, ring = widest(net, one)
            self.assertEqual(slack(net, image(net, likeness, wide)), number)
            self.assertEqual(evened(net, lot, told)[0], evened(net, lot, timetable)[0])
            if evened(net, lot, told)[0] == "even":
                self.assertEqual(mean_lengths(net, lot, told), mean_lengths(net, lot, timetable))

    def test_journeys_windows_and_lateness(self):
        for chance, net, lot, likeness, timetable in self.cases(196, 80):
            told = image(net, likeness, timetable)
            moved, forth = likeness
            one, other = chance.randrange(net.events), chance.randrange(net.events)
            start, end = (moved[one], moved[other]) if forth else (moved[other], moved[one])
            first, second = quickest(net, timetable, one, other), quickest(net, told, start, end)
            self.assertEqual(first and first[0], second and second[0])
            island, there = island_of(net, timetable), island_of(net, told)
            first, second = window(net, island, one, other), window(net, there, start, end)
            # Places are told along the tree: windows are as wide, by whole beats.
            self.assertEqual(first is None, second is None)
            if first is not None:
                self.assertEqual(first[1] - first[0], second[1] - second[0])
                self.assertEqual((second[0] - first[0]) % net.beat, 0)
            if forth:
                row = late(net, timetable, one, 3)
                again = late(net, told, moved[one], 3)
                self.assertEqual(row[0], again[0])
                if row[0] == "ends":
                    self.assertEqual([again[1][moved[event]] for event in range(net.events)], list(row[1]))


if __name__ == "__main__":
    unittest.main()
