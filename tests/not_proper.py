"""Tests that hold of whatever is refused with NotProper and takes labels of 0, 1 and 2."""

from itertools import product

import reckoned
from ringhue.errors import HueError, NotProper
from samples import POINTINGS, RING, STAR, TREES, small_pointings, three_hues


class RefusedNotProper:
    """To stand beside TestCase; call is what is refused."""

    call = None

    def refused(self, pointing, labels, house):
        with self.assertRaises(NotProper) as caught:
            self.call(pointing, labels)
        self.assertEqual(caught.exception.house, house)
        self.assertIs(type(caught.exception.house), int)
        self.assertIsInstance(caught.exception, HueError)

    def test_by_hand(self):
        self.refused((1, 0), (0, 0), 0)
        self.refused((1, 0), (2, 2), 0)
        self.refused(RING, (0, 1, 0, 1, 0), 4)
        self.refused(RING, (0, 1, 1, 2, 2), 1)
        self.refused(TREES, (0, 1, 2, 1, 1, 1), 4)
        self.refused(STAR, (0,) + (1,) * 58 + (0,), 59)

    def test_all_houses(self):
        for pointing in POINTINGS:
            for label in (0, 1, 2):
                self.refused(pointing, (label,) * len(pointing), 0)

    def test_one_house(self):
        for pointing in POINTINGS:
            for labels in three_hues(pointing)[:4]:
                for house, goal in enumerate(pointing):
                    wrong = labels[:house] + (labels[goal],) + labels[house + 1:]
                    self.refused(pointing, wrong, reckoned.clashing(pointing, wrong)[0])

    def test_every_small_pointing(self):
        for pointing in small_pointings():
            for labels in product((0, 1, 2), repeat=len(pointing)):
                wrong = reckoned.clashing(pointing, labels)
                if wrong:
                    self.refused(pointing, labels, wrong[0])
