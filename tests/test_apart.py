import copy
import unittest
from itertools import combinations, product

import reckoned
from not_proper import RefusedNotProper
from ringhue import apart as module
from ringhue.apart import apart, is_apart
from ringhue.three import hues
from samples import (
    GREATEST,
    LONG_PATH,
    LONG_RING,
    NO_NUMBERS,
    POINTINGS,
    RING,
    SIXTY_FIGURES,
    STAR,
    TREES,
    TWO_RINGS,
    drawn_pointings,
    names_for,
    nested,
    small_pointings,
    three_hues,
)


class Apart(unittest.TestCase):
    def check(self, pointing, labels, told=None):
        answer = apart(pointing, labels)
        self.assertIs(type(answer), list)
        for house in answer:
            self.assertIs(type(house), int)
        self.assertEqual(answer, reckoned.apart(pointing, labels))
        self.assertTrue(reckoned.is_apart(pointing, answer))
        self.assertIs(is_apart(pointing, answer), True)
        for house, label in enumerate(labels):
            if label == 0:
                self.assertIn(house, answer)
        if told is not None:
            self.assertEqual(answer, told)

    def test_two_houses_by_hand(self):
        self.check((1, 0), (0, 1), [0])
        self.check((1, 0), (1, 0), [1])
        self.check((1, 0), (1, 2), [0])
        self.check((1, 0), (2, 1), [1])
        self.check((1, 0), (2, 0), [1])

    def test_rings_by_hand(self):
        self.check(RING, (0, 1, 0, 1, 2), [0, 2])
        # 1 and 3 come in first, then 0 and 2 can't, nor 4.
        self.check(RING, (1, 0, 1, 0, 2), [1, 3])
        # 1 alone has 0; then 3 of hue 1 has none tied in; 0 and 2 have.
        self.check(RING, (2, 0, 2, 1, 0), [1, 4])
        self.check(RING, (2, 0, 1, 2, 1), [1, 4])
        self.check((1, 2, 0), (2, 1, 0), [2])
        self.check(LONG_RING, (1, 0) * 30, list(range(1, 60, 2)))

    def test_trees_by_hand(self):
        # 2, 3 and 1 are tied to 0.
        self.check((1, 2, 0, 0), (0, 1, 2, 1), [0])
        self.check((1, 2, 0, 0), (1, 0, 2, 0), [1, 3])
        self.check((1, 2, 0, 0), (1, 2, 0, 2), [2, 3])
        # One that points to a house bars it, and one that it points to as well.
        self.check(STAR, (0,) + (1,) * 59, [0])
        self.check(STAR, (1,) + (0,) * 59, list(range(1, 60)))
        self.check(STAR, (1,) + (2,) * 59, [0])
        self.check(STAR, (1,) + (2,) * 58 + (0,), list(range(1, 60)))
        self.check(LONG_PATH, (0, 1) * 30, list(range(0, 60, 2)))

    def test_every_small_pointing(self):
        for pointing in small_pointings():
            for labels in product((0, 1, 2), repeat=len(pointing)):
                if not reckoned.clashing(pointing, labels):
                    self.check(pointing, labels)

    def test_five_and_six_houses(self):
        for pointing in (RING, TREES, (1, 2, 3, 4, 5, 0), (1, 0, 1, 2, 2)):
            for labels in product((0, 1, 2), repeat=len(pointing)):
                if not reckoned.clashing(pointing, labels):
                    self.check(pointing, labels)

    def test_up_to_sixty_houses(self):
        for pointing in POINTINGS + tuple(drawn_pointings(20)):
            for labels in three_hues(pointing):
                with self.subTest(pointing=pointing, labels=labels):
                    self.check(pointing, labels)

    def test_of_the_hues(self):
        for pointing in POINTINGS:
            for m, names in names_for(len(pointing)):
                self.check(pointing, hues(pointing, names, m))

    def test_what_is_told_is_the_askers_own(self):
        for pointing, labels in (((1, 0), (0, 1)), (RING, (0, 1, 0, 1, 2)), (STAR, (0,) + (1,) * 59)):
            first, second = apart(pointing, labels), apart(pointing, labels)
            kept = list(second)
            self.assertIsNot(first, second)
            first.clear()
            first.append(77)
            self.assertEqual(second, kept)
            self.assertEqual(apart(pointing, labels), kept)

    def test_stands_in_its_file(self):
        self.assertEqual(apart.__module__, module.__name__)
        self.assertEqual(is_apart.__module__, module.__name__)


class Refused(RefusedNotProper, unittest.TestCase):
    call = staticmethod(apart)


class IsApart(unittest.TestCase):
    def check(self, pointing, thing, answer):
        before = copy.deepcopy(thing)
        self.assertIs(is_apart(pointing, thing), answer, (pointing, str(thing)[:200]))
        self.assertEqual(thing, before)

    def test_by_hand(self):
        self.check((1, 0), [0], True)
        self.check((1, 0), [1], True)
        self.check((1, 0), [0, 1], False)
        self.check(RING, [0, 2], True)
        self.check(RING, [1, 4], True)
        self.check(RING, [0], False)
        self.check(RING, [0, 1], False)
        self.check(RING, [0, 4], False)
        self.check(TWO_RINGS, [0, 2], True)
        self.check(TWO_RINGS, [1, 2, 5], True)
        self.check(TWO_RINGS, [1, 2], False)
        self.check(STAR, [0], True)
        self.check(STAR, list(range(1, 60)), True)
        self.check(STAR, [0, 59], False)
        self.check(STAR, list(range(1, 59)), False)

    def test_every_set_of_houses(self):
        for pointing in small_pointings() + [RING, TREES, TWO_RINGS]:
            for many in range(len(pointing) + 1):
                for houses in combinations(range(len(pointing)), many):
                    answer = reckoned.is_apart(pointing, houses)
                    self.check(pointing, list(houses), answer)
                    self.check(pointing, houses, False)

    def test_every_short_list(self):
        for pointing in small_pointings():
            for many in range(4):
                for houses in product(range(-1, len(pointing) + 1), repeat=many):
                    answer = (
                        list(houses) == sorted(set(houses))
                        and all(0 <= house < len(pointing) for house in houses)
                        and reckoned.is_apart(pointing, houses)
                    )
                    self.check(pointing, list(houses), answer)

    def right_ones(self):
        for pointing in POINTINGS:
            for labels in three_hues(pointing)[:6]:
                yield pointing, reckoned.apart(pointing, labels)

    def test_one_left_out_or_one_more(self):
        for pointing, right in self.right_ones():
            self.check(pointing, right, True)
            for at in range(len(right)):
                self.check(pointing, right[:at] + right[at + 1:], False)
            for house in range(len(pointing)):
                if house not in right:
                    self.check(pointing, sorted(right + [house]), False)

    def test_one_twice_or_out_of_order(self):
        for pointing, right in self.right_ones():
            for at, house in enumerate(right):
                self.check(pointing, right[:at] + [house] + right[at:], False)
            self.check(pointing, right + right[:1], False)
            if len(right) > 1:
                self.check(pointing, right[::-1], False)
                self.check(pointing, right[1:] + right[:1], False)
                self.check(pointing, right[:-2] + [right[-1], right[-2]], False)

    def test_what_is_no_house(self):
        for pointing, right in self.right_ones():
            many = len(pointing)
            beyond = (-1, -many, many, many + 1, SIXTY_FIGURES, -SIXTY_FIGURES)
            for thing in NO_NUMBERS + beyond + ([0, 1], nested(39, list)):
                for at in (0, len(right) // 2, len(right)):
                    self.check(pointing, right[:at] + [thing] + right[at:], False)
                    self.check(pointing, right[:at] + [thing] + right[at + 1:], False)

    def test_a_truth_in_the_stead_of_its_own_number(self):
        self.check((1, 0), [False], False)
        self.check((1, 0), [True], False)
        self.check(RING, [False, 2], False)
        self.check(RING, [True, 4], False)
        self.check(STAR, [True] + list(range(2, 60)), False)

    def test_other_things(self):
        things = (0, 1, -1, SIXTY_FIGURES, True, False, None, "", "0", "[0]", [], (), (0,), [[0]], [(0,)],
                  nested(40, list), nested(40, tuple))
        for pointing in POINTINGS:
            for thing in things:
                self.check(pointing, thing, False)
            self.check(pointing, list(range(len(pointing))), False)

    def test_ten_thousand_in_all(self):
        for pointing in ((1, 0), STAR, LONG_RING):
            self.check(pointing, [0] * 9999, False)
            self.check(pointing, list(range(9999)), False)
            self.check(pointing, (0,) * 9999, False)
            self.check(pointing, [[] for _ in range(9999)], False)

    def test_what_is_done_behind_a_call_changes_nothing(self):
        thing = [0, 2]
        self.check(RING, thing, True)
        thing.append(3)
        self.check(RING, thing, False)
        self.check(RING, [0, 2], True)

    def test_labels_above_two(self):
        # The document promises nothing of them but that there is no error.
        self.check(RING, apart(RING, (3, 4, 5, GREATEST, 7)), True)


if __name__ == "__main__":
    unittest.main()
