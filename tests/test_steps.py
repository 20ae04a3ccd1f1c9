import unittest
from itertools import product

import reckoned
from ringhue import steps
from ringhue.errors import HueError, NotProper
from ringhue.steps import is_proper, step
from samples import (
    GREATEST,
    LONG_PATH,
    LONG_RING,
    POINTINGS,
    RING,
    STAR,
    TREES,
    TWO_RINGS,
    proper_labels,
    small_pointings,
)


class IsProper(unittest.TestCase):
    def test_two_that_point_to_each_other(self):
        self.assertIs(is_proper((1, 0), (0, 1)), True)
        self.assertIs(is_proper((1, 0), (0, GREATEST)), True)
        self.assertIs(is_proper((1, 0), (GREATEST, GREATEST - 1)), True)
        self.assertIs(is_proper((1, 0), (0, 0)), False)
        self.assertIs(is_proper((1, 0), (7, 7)), False)
        self.assertIs(is_proper((1, 0), (GREATEST, GREATEST)), False)

    def test_rings(self):
        self.assertIs(is_proper(RING, (0, 1, 0, 1, 2)), True)
        self.assertIs(is_proper(RING, (GREATEST, 0, GREATEST, 0, 1)), True)
        self.assertIs(is_proper(RING, (0, 1, 0, 1, 0)), False)
        self.assertIs(is_proper(RING, (GREATEST, GREATEST, 0, 1, 0)), False)
        self.assertIs(is_proper(LONG_RING, (0, 1) * 30), True)
        self.assertIs(is_proper(LONG_RING, (0, 0) * 30), False)

    def test_trees_that_hang_on_rings(self):
        # 3 and 4 hang on 0 of the ring 0, 1, 2, and 5 on 1.
        self.assertIs(is_proper(TREES, (0, 1, 2, 1, 0, 0)), True)
        self.assertIs(is_proper(TREES, (0, 1, 2, 2, 2, 0)), False)
        self.assertIs(is_proper(TREES, (0, 1, 2, 0, 1, 0)), False)
        self.assertIs(is_proper(TREES, (0, 1, 2, 1, 0, 1)), False)
        self.assertIs(is_proper(TWO_RINGS, (0, 1, 0, 1, 2, 1, 1)), True)
        self.assertIs(is_proper(STAR, (GREATEST,) + (0,) * 59), True)

    def test_houses_that_are_not_tied_may_have_one_label(self):
        self.assertIs(is_proper(STAR, (0,) + (1,) * 59), True)
        self.assertIs(is_proper(LONG_PATH, (0, 1) * 30), True)

    def test_one_house_alone_has_its_nexts_label(self):
        for pointing in POINTINGS:
            for labels in proper_labels(pointing):
                for house, goal in enumerate(pointing):
                    wrong = labels[:house] + (labels[goal],) + labels[house + 1:]
                    with self.subTest(pointing=pointing, house=house):
                        self.assertIs(is_proper(pointing, labels), True)
                        self.assertIs(is_proper(pointing, wrong), False)

    def test_every_small_pointing(self):
        for pointing in small_pointings():
            for labels in product((0, 1, GREATEST), repeat=len(pointing)):
                told = is_proper(pointing, labels)
                self.assertIs(told, reckoned.clashing(pointing, labels) == [])

    def test_stands_in_its_file(self):
        self.assertEqual(is_proper.__module__, steps.__name__)
        self.assertEqual(step.__module__, steps.__name__)


class Step(unittest.TestCase):
    def check(self, pointing, labels, told):
        answer = step(pointing, labels)
        self.assertIs(type(answer), tuple)
        self.assertEqual(answer, told)
        for label in answer:
            self.assertIs(type(label), int)

    def test_by_hand(self):
        # 0 and 1 are unlike at place 0.
        self.check((1, 0), (0, 1), (0, 1))
        # 4 is 100, 6 is 110: unlike at place 1.
        self.check((1, 0), (4, 6), (2, 3))
        # 3 is 0011, 11 is 1011: unlike at place 3.
        self.check((1, 0), (3, 11), (6, 7))
        # 5 is 101, 3 is 011: unlike at places 1 and 2, of which 1 counts.
        self.check((1, 0), (5, 3), (2, 3))
        # 0 to 4 are 000, 001, 010, 011, 100.
        self.check(RING, (0, 1, 2, 3, 4), (0, 1, 0, 1, 5))
        self.check((1, 2, 0, 0), (3, 7, 9, 16), (4, 3, 2, 0))

    def test_trees_by_hand(self):
        # 3 takes its bit against 0, 4 against 3, 5 against 1, though none points to them.
        self.check(TREES, (0, 1, 2, 8, 12, 9), (0, 1, 3, 7, 5, 7))

    def test_labels_that_differ_in_their_highest_place_only(self):
        self.check((1, 0), (0, 2 ** 59), (118, 119))
        self.check((1, 0), (2 ** 59, 0), (119, 118))
        self.check((1, 0), (2 ** 59 + 5, 5), (119, 118))
        for place in range(60):
            self.check((1, 0), (0, 2 ** place), (2 * place, 2 * place + 1))
            low = 2 ** place - 1
            self.check((1, 0), (low + 2 ** place, low), (2 * place + 1, 2 * place))

    def test_greatest_labels(self):
        # 10 ** 18 is odd times 2 ** 18, so it and 0 are unlike at place 18 first.
        self.check((1, 0), (GREATEST, 0), (37, 36))
        self.check((1, 0), (GREATEST, GREATEST - 1), (0, 1))

    def test_every_pair_of_small_labels(self):
        for first, second in product(range(40), repeat=2):
            if first != second:
                told = (reckoned.stepped(first, second), reckoned.stepped(second, first))
                self.check((1, 0), (first, second), told)

    def test_every_small_pointing(self):
        for pointing in small_pointings():
            for labels in product((0, 2, 5, GREATEST), repeat=len(pointing)):
                if not reckoned.clashing(pointing, labels):
                    self.check(pointing, labels, reckoned.step(pointing, labels))

    def test_as_reckoned_and_proper_again(self):
        for pointing in POINTINGS:
            for labels in proper_labels(pointing):
                for _ in range(4):
                    told = reckoned.step(pointing, labels)
                    self.check(pointing, labels, told)
                    self.assertEqual(reckoned.clashing(pointing, told), [])
                    self.assertIs(is_proper(pointing, told), True)
                    labels = told

    def test_what_is_handed_in_stays(self):
        pointing, labels = (1, 2, 0, 0), (3, 7, 9, 16)
        first = step(pointing, labels)
        self.assertEqual(pointing, (1, 2, 0, 0))
        self.assertEqual(labels, (3, 7, 9, 16))
        self.assertEqual(step(pointing, labels), first)


class Refused(unittest.TestCase):
    def refused(self, pointing, labels, house):
        with self.assertRaises(NotProper) as caught:
            step(pointing, labels)
        self.assertEqual(caught.exception.house, house)
        self.assertIs(type(caught.exception.house), int)
        self.assertIsInstance(caught.exception, HueError)

    def test_by_hand(self):
        self.refused((1, 0), (0, 0), 0)
        self.refused((1, 0), (GREATEST, GREATEST), 0)
        self.refused(RING, (0, 1, 0, 1, 0), 4)
        self.refused(RING, (0, 1, 1, 2, 2), 1)
        self.refused(TREES, (0, 1, 2, 1, 1, 1), 4)
        self.refused(TREES, (0, 1, 2, 1, 0, 1), 5)

    def test_all_houses(self):
        for pointing in POINTINGS:
            for label in (0, 3, GREATEST):
                self.refused(pointing, (label,) * len(pointing), 0)

    def test_one_house(self):
        for pointing in POINTINGS:
            for labels in proper_labels(pointing):
                for house, goal in enumerate(pointing):
                    wrong = labels[:house] + (labels[goal],) + labels[house + 1:]
                    # Houses that point to it may have it too now: the least of all counts.
                    self.refused(pointing, wrong, reckoned.clashing(pointing, wrong)[0])

    def test_last_house_alone(self):
        for pointing in (LONG_PATH, STAR):
            goal = pointing[59]
            wrong = reckoned.names_below(59, GREATEST)
            self.refused(pointing, wrong + (wrong[goal],), 59)
        self.refused(LONG_RING, (0, 1) * 29 + (0, 0), 58)
        self.refused(LONG_RING, (0, 1) * 29 + (2, 0), 59)

    def test_every_small_pointing(self):
        for pointing in small_pointings():
            for labels in product((0, 1, GREATEST), repeat=len(pointing)):
                wrong = reckoned.clashing(pointing, labels)
                if wrong:
                    self.refused(pointing, labels, wrong[0])

    def test_what_is_refused_changes_nothing(self):
        pointing, labels = (1, 2, 0, 0), (3, 3, 9, 16)
        self.refused(pointing, labels, 0)
        self.assertEqual((pointing, labels), ((1, 2, 0, 0), (3, 3, 9, 16)))
        self.assertEqual(step(pointing, (3, 7, 9, 16)), (4, 3, 2, 0))


if __name__ == "__main__":
    unittest.main()
