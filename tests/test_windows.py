import random
import unittest
from itertools import product

import reckoned
from ringhue import windows
from ringhue.halvings import halvings
from ringhue.houses import road
from ringhue.three import hues, rounds
from ringhue.windows import hue_of
from samples import (
    GREATEST,
    LONG_RING,
    POINTINGS,
    drawn_names,
    drawn_pointings,
    names_for,
    small_pointings,
)

NUMBERS = (2, 3, 4, 5, 6, 7, 8, 9, 10, 16, 17, 18, 64, 65, 256, 257, 2 ** 16, 2 ** 16 + 1,
           10 ** 9, 2 ** 59, 2 ** 59 + 1, GREATEST - 1, GREATEST)


def in_turn(numbers, many):
    """So many numbers, these ones again and again."""
    return [numbers[at % len(numbers)] for at in range(many)]


def drawn_windows(m, many, draw):
    """Windows for m in which no number is the next one's, but any else may come again."""
    found = []
    for _ in range(many):
        window = [draw.randrange(m)]
        while len(window) <= rounds(m):
            number = draw.randrange(m)
            if number != window[-1]:
                window.append(number)
        found.append(window)
    return found


class HueOf(unittest.TestCase):
    def check(self, window, m):
        kept = list(window)
        answer = hue_of(window, m)
        self.assertIs(type(answer), int)
        self.assertIn(answer, (0, 1, 2))
        self.assertEqual(answer, reckoned.window_hue(kept, m), (kept, m))
        self.assertEqual(window, kept)
        return answer

    def test_by_hand(self):
        # No steps and nobody above 2, so each hue goes by one place: the number three places on.
        self.assertEqual(hue_of([0, 1, 0, 1, 0, 1, 0], 2), 1)
        self.assertEqual(hue_of([1, 0, 1, 0, 1, 0, 1], 2), 0)
        self.assertEqual(hue_of([0, 1, 2, 0, 1, 2, 0], 3), 0)
        self.assertEqual(hue_of([1, 2, 0, 1, 2, 0, 2], 3), 1)
        # 5 0 3 1 2 0, then 2 0 3 1 2; 0 3 1 2, then 0 3 1; 3 1, then 2.
        self.assertEqual(hue_of([1, 5, 0, 3, 1, 2, 0], 6), 2)
        # The ring of test_three: 0 5 3 4 1 2 comes to 0 1 2 0 1 2.
        ring = [0, 5, 3, 4, 1, 2]
        for at, hue in enumerate((0, 1, 2, 0, 1, 2)):
            self.assertEqual(hue_of(in_turn(ring[at:] + ring[:at], 7), 6), hue)

    def test_hues_of_the_pointing_1_2_0_0_by_hand(self):
        # As in test_three, names 3, 7, 9, 16 for 17 come to 0, 2, 1, 1.
        self.assertEqual(hue_of(in_turn([3, 7, 9], 10), 17), 0)
        self.assertEqual(hue_of(in_turn([7, 9, 3], 10), 17), 2)
        self.assertEqual(hue_of(in_turn([9, 3, 7], 10), 17), 1)
        self.assertEqual(hue_of([16] + in_turn([3, 7, 9], 9), 17), 1)

    def test_every_window_of_small_numbers(self):
        for m in (2, 3, 4):
            for window in product(range(m), repeat=7):
                if all(one != behind for one, behind in zip(window, window[1:])):
                    self.check(list(window), m)

    def test_two_in_turn(self):
        for m in NUMBERS:
            many = rounds(m) + 1
            for two in ([0, m - 1], [m - 1, 0], [0, 1], [m - 2, m - 1], [m // 2, m - 1]):
                if two[0] != two[1]:
                    self.check(in_turn(two, many), m)
        for m in range(2, 20):
            for two in product(range(m), repeat=2):
                if two[0] != two[1]:
                    self.check(in_turn(two, rounds(m) + 1), m)

    def test_three_in_turn(self):
        for m in NUMBERS[1:]:
            many = rounds(m) + 1
            for three in ([0, 1, m - 1], [m - 1, 0, 1], [m - 1, m - 2, m - 3], [0, m - 1, m // 2]):
                if len(set(three)) == 3:
                    self.check(in_turn(three, many), m)

    def test_all_unlike(self):
        for m in NUMBERS:
            many = rounds(m) + 1
            if m >= many:
                self.check(list(range(many)), m)
                self.check(list(range(m - many, m)), m)
                self.check(list(range(m - 1, m - 1 - many, -1)), m)
                self.check([0] + list(range(m - many + 1, m)), m)

    def test_drawn_windows(self):
        draw = random.Random(11)
        for m in NUMBERS:
            for window in drawn_windows(m, 150, draw):
                self.check(window, m)

    def test_each_number_of_small_ones(self):
        draw = random.Random(12)
        for m in range(2, 70):
            for window in drawn_windows(m, 10, draw):
                self.check(window, m)

    def test_the_hue_is_not_the_next_ones(self):
        # Houses that follow one another have windows that do, so their hues must differ.
        draw = random.Random(13)
        for m in NUMBERS:
            for window in drawn_windows(m, 100, draw):
                for number in (0, m - 1, draw.randrange(m)):
                    if number != window[0]:
                        ahead = [number] + window[:-1]
                        self.assertNotEqual(hue_of(ahead, m), hue_of(window, m))

    def test_as_many_numbers_as_the_rounds_and_one(self):
        for m in NUMBERS:
            self.assertEqual(rounds(m), len(halvings(m)) + 5)
            self.check(in_turn([0, m - 1], len(reckoned.halvings(m)) + 6), m)

    def test_nothing_is_kept(self):
        window = in_turn([3, 7, 9], 10)
        self.assertEqual(hue_of(window, 17), 0)
        window[:] = in_turn([7, 9, 3], 10)
        self.assertEqual(hue_of(window, 17), 2)
        window[:] = in_turn([3, 7, 9], 10)
        self.assertEqual(hue_of(window, 17), 0)

    def test_stands_in_its_file(self):
        self.assertEqual(hue_of.__module__, windows.__name__)


class InPointings(unittest.TestCase):
    def check(self, pointing, names, m):
        told = hues(pointing, names, m)
        for house in range(len(pointing)):
            window = [names[one] for one in road(pointing, house, rounds(m))]
            kept = list(window)
            self.assertEqual(hue_of(window, m), told[house])
            self.assertEqual(window, kept)

    def test_small_pointings(self):
        draw = random.Random(14)
        for pointing in small_pointings():
            for m in (len(pointing), 6, 7, 17, GREATEST):
                self.check(pointing, drawn_names(pointing, m, draw), m)

    def test_rings_shorter_than_the_rounds(self):
        draw = random.Random(15)
        for many in range(2, 11):
            ring = tuple((house + 1) % many for house in range(many))
            for m in (10, 16, 17, 257, 10 ** 9, GREATEST):
                for _ in range(5):
                    self.check(ring, drawn_names(ring, m, draw), m)

    def test_trees_that_hang_on_rings_and_sixty_houses(self):
        for pointing in POINTINGS:
            for m, names in names_for(len(pointing)):
                self.check(pointing, names, m)

    def test_drawn_pointings(self):
        draw = random.Random(16)
        for pointing in drawn_pointings(30):
            for m in (60, 257, 2 ** 40, GREATEST):
                self.check(pointing, drawn_names(pointing, m, draw), m)

    def test_one_road_in_two_pointings(self):
        # Behind house 20 all is otherwise, but no road of the rounds goes there from house 0.
        turned = LONG_RING[:20] + tuple(range(19, 59))
        names = reckoned.names_below(60, GREATEST)
        others = names[:20] + tuple(sorted(names[20:]))
        self.assertNotEqual(names, others)
        self.check(LONG_RING, names, GREATEST)
        self.check(turned, others, GREATEST)
        self.assertEqual(hues(turned, others, GREATEST)[:9], hues(LONG_RING, names, GREATEST)[:9])


if __name__ == "__main__":
    unittest.main()
