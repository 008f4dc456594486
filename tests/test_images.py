"""Images of timetables and islands: points 7.1 to 7.4."""

import random
import time
import unittest

from likespans.images import image, image_island, is_kept, islands_alike, kept_islands
from likespans.islands import island_of, islands, rounds, rounds_by, timetables
from likespans.likes import back, group, ring_led
from likespans.nets import Net
from likespans.ratios import Ratio
from likespans.timetables import is_timetable, lengths
from likespans.ways import base
from tests.slow import alike_net, slow_group, slow_lengths, slow_ring_led, slow_span_led, slow_sum, slow_timetables
from tests.test_likes import MIRROR, OTHER, ROUND, SAME, not_likenesses
from tests.things import error_of, is_plain, line, things

HALF = Ratio(1, 2)
BROKEN = (HALF, Ratio(7, 2), Ratio(11, 2), Ratio(17, 2))


def three():
    """Two spans from each of two events to the other one: three timetables but for shifts, each an island."""
    return Net(6, 2, ((0, 1, 1, 5), (1, 0, 1, 5), (0, 1, 3, 7), (1, 0, 3, 7)))


class ImageTest(unittest.TestCase):

    def test_whole_and_broken_moments(self):
        for likeness, moments, told in [
            (SAME, (0, 3, 5, 8), (0, 3, 5, 8)), (ROUND, (0, 3, 5, 8), (5, 8, 0, 3)), (MIRROR, (0, 3, 5, 8), (7, 0, 2, 5)),
            (OTHER, (1, 4, 5, 8), (2, 5, 6, 9)), (ROUND, BROKEN, (Ratio(11, 2), Ratio(17, 2), HALF, Ratio(7, 2))),
            (MIRROR, BROKEN, (Ratio(13, 2), Ratio(19, 2), Ratio(3, 2), Ratio(9, 2))),
            (SAME, (Ratio(0, 1), Ratio(3, 1), 5, Ratio(17, 2)), (0, 3, 5, Ratio(17, 2))),
            (MIRROR, (Ratio(0, 1), Ratio(3, 1), 5, Ratio(17, 2)), (7, 0, Ratio(3, 2), 5)),
        ]:
            found = image(line(), likeness, moments)
            self.assertEqual(found, told)
            self.assertIsInstance(found, tuple)
            self.assertTrue(all([is_plain(moment) for moment in found]))

    def test_parts_of_many_digits(self):
        part = Ratio(1, 10 ** 20)
        moments = (part, part + 3, part + part + 5, 8)
        self.assertEqual(image(line(), MIRROR, moments), ((-part - 3).rest(10), (-part).rest(10), 2, (-part - part - 5).rest(10)))

    def test_lengths_and_rounds_go_along(self):
        chance = random.Random(71)
        for _ in range(120):
            net, lot = alike_net(chance)
            found = slow_timetables(net)
            for moments in chance.sample(found, min(len(found), 5)):
                for likeness in lot:
                    other = image(net, likeness, moments)
                    self.assertTrue(is_timetable(net, other))
                    ahead = slow_lengths(net, moments)
                    behind = slow_lengths(net, other)
                    for index in range(len(net.spans)):
                        self.assertEqual(behind[slow_span_led(net, likeness, index)], ahead[index])
                    for ring in base(net):
                        there = ring_led(net, likeness, ring)
                        self.assertEqual(rounds(net, other, there), rounds(net, moments, ring))
                    self.assertEqual(image_island(net, likeness, island_of(net, moments)), island_of(net, other))
                    self.assertEqual(image(net, back(net, likeness), other), moments)

    def test_lengths_go_along_with_broken_moments(self):
        self.assertEqual(lengths(line(), (0, Ratio(5, 2), 5, 8)), (Ratio(5, 2), Ratio(5, 2), 3, 2))
        self.assertEqual(lengths(line(), image(line(), ROUND, (0, Ratio(5, 2), 5, 8))), (3, 2, Ratio(5, 2), Ratio(5, 2)))
        self.assertEqual(lengths(line(), image(line(), MIRROR, (0, Ratio(5, 2), 5, 8))), (Ratio(5, 2), 2, 3, Ratio(5, 2)))

    def test_errors(self):
        for thing in [thing for thing, told in not_likenesses()] + things():
            self.assertEqual(error_of(image, line(), thing, (0, 3, 5, 8)), ("BadLikeness",))
            self.assertEqual(error_of(image, line(), thing, thing), ("BadLikeness",))
        for thing in things() + [(0, 3, 7, 9), [0, 3, 5, 8], (0, 3, 5, 18)]:
            self.assertEqual(error_of(image, line(), MIRROR, thing), ("BadTimetable",))


class ImageIslandTest(unittest.TestCase):

    def test_of_islands(self):
        self.assertEqual(image_island(line(), MIRROR, (1,)), (1,))
        self.assertEqual(base(three()), [((1, True), (0, True)), ((2, True), (0, False)), ((3, True), (0, True))])
        turn = ((1, 0), True)
        self.assertEqual(image_island(three(), turn, (1, 0, 1)), (1, 0, 1))
        self.assertEqual(image_island(three(), turn, (1, 0, 2)), (1, 1, 1))
        self.assertEqual(image_island(three(), ((0, 1), False), (1, 1, 1)), (1, 0, 2))
        self.assertEqual(image_island(three(), ((1, 0), False), (1, 1, 1)), (1, 1, 1))

    def test_of_rows_that_are_no_islands(self):
        turn = ((1, 0), True)
        for row in [(7, -3, 2), (0, 0, 0), (-5, 10 ** 40, 3), (-10 ** 40, 1 - 10 ** 40, -1)]:
            # The rings of the base are led to: the first one, the last one less the first one, both.
            self.assertEqual(image_island(three(), turn, row), (row[0], row[2] - row[0], row[0] + row[1]))
            self.assertEqual(image_island(line(), ROUND, row[:1]), row[:1])
            self.assertEqual(image_island(three(), turn, image_island(three(), turn, row)), row)

    def test_by_the_rings_led(self):
        chance = random.Random(72)
        for _ in range(150):
            net, lot = alike_net(chance)
            row = tuple([chance.randint(-9, 9) for _ in base(net)])
            for likeness in lot:
                there = image_island(net, likeness, row)
                for ring, many in zip(base(net), row):
                    self.assertEqual(rounds_by(net, there, slow_ring_led(net, likeness, ring)), many)

    def test_errors(self):
        for thing in [thing for thing, told in not_likenesses()] + things():
            self.assertEqual(error_of(image_island, line(), thing, (1,)), ("BadLikeness",))
            self.assertEqual(error_of(image_island, line(), thing, None), ("BadLikeness",))
        for thing in things() + [[1], (True,), (Ratio(1, 1),), (1, 1), ("1",)]:
            if thing != (0,):
                self.assertEqual(error_of(image_island, line(), MIRROR, thing), ("BadIsland", -1))
        self.assertEqual(error_of(image_island, three(), ((1, 0), True), (1, False, 1)), ("BadIsland", -1))
        self.assertEqual(image_island(Net(5, 2, ()), ((1, 0), False), ()), ())


class AlikeTest(unittest.TestCase):

    def test_is_kept(self):
        turn = ((1, 0), True)
        mirror = ((1, 0), False)
        self.assertIs(is_kept(three(), [turn], (1, 0, 1)), True)
        self.assertIs(is_kept(three(), [turn], (1, 0, 2)), False)
        self.assertIs(is_kept(three(), [mirror], (1, 0, 2)), True)
        self.assertIs(is_kept(three(), (mirror, turn), (1, 0, 2)), False)
        self.assertIs(is_kept(three(), (), (1, 0, 2)), True)
        self.assertIs(is_kept(line(), [MIRROR, ROUND], (1,)), True)
        for thing in things():
            if thing != (0,):
                self.assertIs(is_kept(line(), [MIRROR], thing), False)

    def test_islands_alike(self):
        self.assertEqual(islands(three()), [(1, 0, 1), (1, 0, 2), (1, 1, 1)])
        apart = [[row] for row in islands(three())]
        self.assertEqual(islands_alike(three(), []), apart)
        self.assertEqual(islands_alike(three(), [((1, 0), False)]), apart)
        both = [[(1, 0, 1)], [(1, 0, 2), (1, 1, 1)]]
        self.assertEqual(islands_alike(three(), [((1, 0), True)]), both)
        self.assertEqual(islands_alike(three(), (((0, 1), False), ((1, 0), False))), both)
        self.assertEqual(islands_alike(line(), [MIRROR]), [[(1,)]])
        barred = Net(10, 2, ((0, 1, 1, 1), (1, 0, 1, 1)))
        self.assertEqual(islands_alike(barred, [((1, 0), True)]), [])
        self.assertEqual(kept_islands(barred, ((1, 0), True)), 0)

    def test_kept_islands(self):
        for likeness, many in [(((0, 1), True), 3), (((1, 0), True), 1), (((0, 1), False), 1), (((1, 0), False), 3)]:
            self.assertEqual(kept_islands(three(), likeness), many)

    def test_each_against_the_other(self):
        chance = random.Random(73)
        several = 0
        for _ in range(400):
            net, lot = alike_net(chance)
            every = group(net, lot)
            found = islands_alike(net, lot)
            several += len([rows for rows in found if len(rows) > 1])
            self.assertEqual(len(found) * len(every), sum([kept_islands(net, likeness) for likeness in every]))
            self.assertEqual(sorted(sum(found, [])), islands(net))
            self.assertEqual([rows[0] for rows in found], sorted([min(rows) for rows in found]))
            for rows in found:
                there = {image_island(net, likeness, rows[0]) for likeness in every}
                self.assertEqual(rows, sorted(there))
                for island in rows:
                    self.assertIs(is_kept(net, lot, island), len(rows) == 1)
                    self.assertIs(is_kept(net, lot, island), self.like_rings_agree(net, lot, island))
        self.assertGreater(several, 10)

    def like_rings_agree(self, net, lot, island):
        """Whether like rings have the same rounds in a timetable of an island."""
        row = slow_lengths(net, timetables(net, island)[0])
        for ring in base(net):
            if len({slow_sum(row, slow_ring_led(net, likeness, ring)) for likeness in slow_group(net, lot)}) > 1:
                return False
        return True

    def test_errors(self):
        for thing in [thing for thing, told in not_likenesses()] + things():
            self.assertEqual(error_of(kept_islands, line(), thing), ("BadLikeness",))
            self.assertEqual(error_of(islands_alike, line(), [MIRROR, thing]), ("BadLot", 1))
        for thing in things():
            if not isinstance(thing, (list, tuple)):
                self.assertEqual(error_of(islands_alike, line(), thing), ("BadLot", -1))
        self.assertEqual(error_of(islands_alike, line(), [MIRROR] * 7), ("BadLot", -1))
        turn = (tuple([1, 2, 3, 4, 0, 6, 7, 8, 9, 10, 11, 5]), False)
        self.assertEqual(error_of(islands_alike, Net(5, 12, ()), [turn]), ("TooMany", 48))
        self.assertEqual(kept_islands(Net(5, 12, ()), turn), 1)

    def test_many_islands_soon(self):
        began = time.monotonic()
        spans = []
        for at in range(0, 21, 3):
            spans = spans + [(at, at + 1, 0, 8), (at + 1, at + 2, 0, 8), (at + 2, at, 0, 8)]
        net = Net(10, 21, spans)
        turn = (tuple([(event + 3) % 21 for event in range(21)]), True)
        found = islands_alike(net, [turn])
        # Three islands for each of seven rings: as many lists as there are necklaces of seven beads.
        self.assertEqual((len(islands(net)), len(found)), (3 ** 7, (3 ** 7 - 3) // 7 + 3))
        self.assertEqual(kept_islands(net, turn), 3)
        self.assertLess(time.monotonic() - began, 5)


if __name__ == "__main__":
    unittest.main()
