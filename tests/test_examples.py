"""The examples at the end of the document, all of them."""

import unittest

from likespans.bests import best
from likespans.evening import evened
from likespans.islands import held, islands, leader
from likespans.likes import likenesses
from likespans.nets import Net, pieces
from likespans.plans import Plan
from likespans.ratios import Ratio
from likespans.spacing import mirror_moments, spacing
from likespans.texts import net_text
from likespans.timetables import lengths, moments_fault
from likespans.ways import base, tree

NET = Net(10, 4, ((0, 1, 2, 4), (1, 2, 1, 3), (2, 3, 2, 4), (3, 0, 1, 3)))
MIRROR = ((1, 0, 3, 2), False)


class ExamplesTest(unittest.TestCase):

    def test_e01(self):
        told = (Ratio(6, -4).top, Ratio(6, -4).bottom, Ratio(7, 2).whole(), Ratio(-1, 2).rest(10) == Ratio(19, 2))
        self.assertEqual(told, (-3, 2, 3, True))

    def test_e02(self):
        ring = ((3, True), (0, True), (1, True), (2, True))
        self.assertEqual((tree(NET), base(NET), pieces(NET)), ((0, 1, 2), [ring], [[0, 1, 2, 3]]))

    def test_e03(self):
        told = (lengths(NET, (0, 3, 5, 8)), moments_fault(NET, (0, 3, 7, 9)))
        self.assertEqual(told, ((3, 2, 3, 2), ("span", 1)))

    def test_e04(self):
        self.assertEqual((islands(NET), held(NET, (2,))[0], leader(NET, (1,))), ([(1,)], "ring", (0, 2, 3, 7)))

    def test_e05(self):
        told = [((0, 1, 2, 3), True), ((1, 0, 3, 2), False), ((2, 3, 0, 1), True), ((3, 2, 1, 0), False)]
        self.assertEqual(likenesses(NET), told)

    def test_e06(self):
        told = (evened(NET, [MIRROR], (0, 3, 5, 8)), mirror_moments(NET, MIRROR, (0, 3, 5, 8), 0)[0] == Ratio(3, 2))
        self.assertEqual(told, (("even", (0, 3, 5, 8)), True))

    def test_e07(self):
        self.assertEqual(spacing(NET, ((2, 3, 0, 1), True), (0, 3, 5, 8), 0)[:2], (2, 1))

    def test_e08(self):
        self.assertEqual(best(NET, ((0, 1, 2), (4, 2, 1), (0, 1, 2), (4, 2, 1)), (1,))[0], 2)

    def test_e09(self):
        plan = Plan("beat 10\nline a p 2 4 q\nturn a p 1 3\nturn a q 1 3")
        told = (plan.net == NET, plan.mirror(), plan.trains("a", (0, 3, 5, 8)))
        self.assertEqual(told, (True, ((3, 2, 1, 0), False), 1))

    def test_e10(self):
        self.assertEqual(net_text(Net(5, 2, ((0, 1, 1, 3),))), "beat 5\nevents 2\nspan 0 1 1 3")


if __name__ == "__main__":
    unittest.main()
