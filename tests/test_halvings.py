import unittest
from itertools import permutations

import reckoned
from ringhue import halvings as module
from ringhue.halvings import halvings, shortened
from ringhue.steps import step
from samples import GREATEST, LONG_RING, POINTINGS, RING, TREES, names_for, small_pointings

BY_HAND = {
    2: [2],
    3: [3],
    4: [4],
    5: [5],
    6: [6],
    7: [7, 6],
    8: [8, 6],
    9: [9, 8, 6],
    10: [10, 8, 6],
    11: [11, 8, 6],
    12: [12, 8, 6],
    13: [13, 8, 6],
    14: [14, 8, 6],
    15: [15, 8, 6],
    16: [16, 8, 6],
    17: [17, 10, 8, 6],
    18: [18, 10, 8, 6],
    19: [19, 10, 8, 6],
    20: [20, 10, 8, 6],
    32: [32, 10, 8, 6],
    33: [33, 12, 8, 6],
    64: [64, 12, 8, 6],
    65: [65, 14, 8, 6],
    128: [128, 14, 8, 6],
    129: [129, 16, 8, 6],
    256: [256, 16, 8, 6],
    257: [257, 18, 10, 8, 6],
    2 ** 16: [2 ** 16, 32, 10, 8, 6],
    2 ** 16 + 1: [2 ** 16 + 1, 34, 12, 8, 6],
    2 ** 59: [2 ** 59, 118, 14, 8, 6],
    2 ** 59 + 1: [2 ** 59 + 1, 120, 14, 8, 6],
    10 ** 18 - 1: [10 ** 18 - 1, 120, 14, 8, 6],
    10 ** 18: [10 ** 18, 120, 14, 8, 6],
}


class Halvings(unittest.TestCase):
    def check(self, m, told):
        answer = halvings(m)
        self.assertIs(type(answer), list)
        self.assertEqual(answer, told)
        for number in answer:
            self.assertIs(type(number), int)

    def test_by_hand(self):
        for m, told in BY_HAND.items():
            with self.subTest(m=m):
                self.check(m, told)

    def test_small_numbers(self):
        for m in range(2, 3000):
            self.check(m, reckoned.halvings(m))

    def test_powers_of_two_and_of_ten_and_their_neighbours(self):
        for power in [2 ** place for place in range(2, 60)] + [10 ** place for place in range(1, 19)]:
            for m in (power - 1, power, min(power + 1, GREATEST)):
                self.check(m, reckoned.halvings(m))

    def test_they_fall_to_six_at_most(self):
        for m in list(range(2, 300)) + [GREATEST]:
            told = halvings(m)
            self.assertLessEqual(told[-1], 6)
            for one, following in zip(told, told[1:]):
                self.assertGreater(one, 6)
                self.assertGreater(one, following)

    def test_what_is_told_is_the_askers_own(self):
        for m in (2, 6, 17, GREATEST):
            first, second = halvings(m), halvings(m)
            kept = list(second)
            self.assertIsNot(first, second)
            first.clear()
            first.append(77)
            self.assertEqual(second, kept)
            self.assertEqual(halvings(m), kept)

    def test_stands_in_its_file(self):
        self.assertEqual(halvings.__module__, module.__name__)
        self.assertEqual(shortened.__module__, module.__name__)


class Shortened(unittest.TestCase):
    def check(self, pointing, names, m, told):
        answer = shortened(pointing, names, m)
        self.assertIs(type(answer), tuple)
        self.assertEqual(answer, told)
        for label in answer:
            self.assertIs(type(label), int)

    def behind_steps(self, pointing, names, m):
        labels = names
        for _ in range(len(reckoned.halvings(m)) - 1):
            labels = reckoned.step(pointing, labels)
        return labels

    def test_by_hand(self):
        # Three steps for 17, as its halvings are 17, 10, 8, 6.
        self.check((1, 2, 0, 0), (3, 7, 9, 16), 17, (0, 2, 1, 5))
        # One step for 7 and 8, two from 9 on.
        self.check(RING, (0, 1, 2, 3, 4), 7, (0, 1, 0, 1, 5))
        self.check(RING, (0, 1, 2, 3, 4), 8, (0, 1, 0, 1, 5))
        # 1 is 001, 5 is 101: unlike at place 2.
        self.check(RING, (0, 1, 2, 3, 4), 9, (0, 1, 0, 4, 1))

    def test_no_step_for_small_numbers(self):
        for m in range(2, 7):
            for pointing in small_pointings():
                for names in permutations(range(m), len(pointing)):
                    self.check(pointing, names, m, names)
        self.check(RING, (4, 3, 2, 1, 0), 5, (4, 3, 2, 1, 0))
        self.check(TREES, (4, 3, 5, 1, 2, 0), 6, (4, 3, 5, 1, 2, 0))

    def test_the_number_alone_says_how_many_steps(self):
        for pointing in (RING, (1, 0), (1, 2, 0, 0)):
            names = tuple(range(len(pointing)))
            for m in (6, 7, 9, 17, 257, GREATEST):
                self.check(pointing, names, m, self.behind_steps(pointing, names, m))

    def test_as_many_steps_as_halvings_behind_the_first(self):
        for pointing in POINTINGS:
            for m, names in names_for(len(pointing)):
                with self.subTest(pointing=pointing, m=m):
                    self.check(pointing, names, m, self.behind_steps(pointing, names, m))

    def test_below_six_and_proper(self):
        for pointing in POINTINGS:
            for m, names in names_for(len(pointing)):
                told = shortened(pointing, names, m)
                self.assertEqual(len(told), len(pointing))
                self.assertLess(max(told), 6)
                self.assertGreaterEqual(min(told), 0)
                self.assertEqual(reckoned.clashing(pointing, told), [])

    def test_each_step_comes_below_its_halving(self):
        for pointing in POINTINGS:
            for m, names in names_for(len(pointing)):
                labels = names
                for bound in halvings(m):
                    self.assertLess(max(labels), bound)
                    labels = step(pointing, labels)
        for m in range(7, 70):
            bound = halvings(m)[1]
            for name in range(m - 1):
                self.assertLess(max(step((1, 0), (name, m - 1))), bound)

    def test_each_pair_of_names_in_a_ring(self):
        for m in (7, 8, 9, 16, 17):
            for names in permutations(range(m), 3):
                told = shortened((1, 2, 0), names, m)
                self.assertLess(max(told), 6)
                self.assertEqual(told, self.behind_steps((1, 2, 0), names, m))

    def test_what_is_handed_in_stays(self):
        names = reckoned.names_below(60, GREATEST)
        kept = tuple(list(names))
        first = shortened(LONG_RING, names, GREATEST)
        self.assertEqual(names, kept)
        self.assertEqual(shortened(LONG_RING, names, GREATEST), first)


if __name__ == "__main__":
    unittest.main()
