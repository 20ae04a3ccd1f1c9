import copy
import unittest
from itertools import permutations, product

import reckoned
from not_proper import RefusedNotProper
from ringhue import pairs as module
from ringhue.pairs import is_paired, paired
from ringhue.three import hues
from samples import (
    LONG_PATH,
    LONG_RING,
    NO_NUMBERS,
    POINTINGS,
    RING,
    SIXTY_FIGURES,
    STAR,
    TREES,
    TWO_RINGS,
    drawn_pointings,
    names_for,
    nested,
    small_pointings,
    three_hues,
)


class Paired(unittest.TestCase):
    def check(self, pointing, labels, told=None):
        answer = paired(pointing, labels)
        self.assertIs(type(answer), list)
        for pair in answer:
            self.assertIs(type(pair), tuple)
            for house in pair:
                self.assertIs(type(house), int)
        self.assertEqual(answer, reckoned.paired(pointing, labels))
        self.assertTrue(reckoned.is_paired(pointing, answer))
        self.assertIs(is_paired(pointing, answer), True)
        if told is not None:
            self.assertEqual(answer, told)

    def test_two_houses_by_hand(self):
        self.check((1, 0), (0, 1), [(0, 1)])
        self.check((1, 0), (1, 0), [(1, 0)])
        self.check((1, 0), (2, 1), [(1, 0)])
        self.check((1, 0), (1, 2), [(0, 1)])

    def test_rings_by_hand(self):
        self.check(RING, (0, 1, 0, 1, 2), [(0, 1), (2, 3)])
        self.check(RING, (1, 0, 1, 0, 2), [(1, 2), (3, 4)])
        # 0 alone asks 1 first; then 2 of hue 1 asks 3, and 4 is left.
        self.check(RING, (0, 2, 1, 2, 1), [(0, 1), (2, 3)])
        # 4 alone has 0; then 1 asks 2; then 3 asks 4, that is in a pair.
        self.check(RING, (2, 1, 2, 1, 0), [(1, 2), (4, 0)])
        self.check(LONG_RING, (1, 0) * 30, [(house, (house + 1) % 60) for house in range(1, 60, 2)])

    def test_the_least_of_those_that_ask_one(self):
        self.check(STAR, (0,) + (1,) * 59, [(0, 1)])
        self.check(STAR, (1,) + (0,) * 59, [(1, 0)])
        self.check(STAR, (2, 1) + (0,) * 58, [(2, 0)])
        # 9 alone has 0.
        self.check(STAR, (1,) + (2,) * 8 + (0,) + (2,) * 50, [(9, 0)])
        # 2 and 3 ask 0 at once.
        self.check((1, 2, 0, 0), (1, 2, 0, 0), [(2, 0)])
        self.check((1, 2, 0, 0), (1, 0, 2, 0), [(1, 2), (3, 0)])

    def test_next_is_told_second_though_it_is_less(self):
        self.check(LONG_PATH, (1, 0) * 30, [(house, house - 1) for house in range(1, 60, 2)])

    def test_every_small_pointing(self):
        for pointing in small_pointings():
            for labels in product((0, 1, 2), repeat=len(pointing)):
                if not reckoned.clashing(pointing, labels):
                    self.check(pointing, labels)

    def test_five_and_six_houses(self):
        for pointing in (RING, TREES, (1, 2, 3, 4, 5, 0), (1, 0, 1, 2, 2)):
            for labels in product((0, 1, 2), repeat=len(pointing)):
                if not reckoned.clashing(pointing, labels):
                    self.check(pointing, labels)

    def test_up_to_sixty_houses(self):
        for pointing in POINTINGS + tuple(drawn_pointings(20)):
            for labels in three_hues(pointing):
                with self.subTest(pointing=pointing, labels=labels):
                    self.check(pointing, labels)

    def test_of_the_hues(self):
        for pointing in POINTINGS:
            for m, names in names_for(len(pointing)):
                self.check(pointing, hues(pointing, names, m))

    def test_what_is_told_is_the_askers_own(self):
        for pointing, labels in (((1, 0), (0, 1)), (RING, (0, 1, 0, 1, 2)), (STAR, (0,) + (1,) * 59)):
            first, second = paired(pointing, labels), paired(pointing, labels)
            kept = list(second)
            self.assertIsNot(first, second)
            first.clear()
            first.append((7, 7))
            self.assertEqual(second, kept)
            self.assertEqual(paired(pointing, labels), kept)

    def test_stands_in_its_file(self):
        self.assertEqual(paired.__module__, module.__name__)
        self.assertEqual(is_paired.__module__, module.__name__)


class Refused(RefusedNotProper, unittest.TestCase):
    call = staticmethod(paired)


class IsPaired(unittest.TestCase):
    def check(self, pointing, thing, answer):
        before = copy.deepcopy(thing)
        self.assertIs(is_paired(pointing, thing), answer, (pointing, str(thing)[:200]))
        self.assertEqual(thing, before)

    def test_two_that_point_to_each_other(self):
        self.check((1, 0), [(0, 1)], True)
        self.check((1, 0), [(1, 0)], True)
        self.check((1, 0), [(0, 1), (1, 0)], False)
        self.check((1, 0), [(0, 1), (0, 1)], False)
        # 0 and 1 point to each other, 2, 3, 4 stand in a ring, 5 hangs on 0, 6 on 2.
        self.check(TWO_RINGS, [(0, 1), (2, 3)], True)
        self.check(TWO_RINGS, [(1, 0), (2, 3)], True)
        self.check(TWO_RINGS, [(2, 3), (5, 0)], True)
        self.check(TWO_RINGS, [(0, 1), (2, 3), (4, 2)], False)
        self.check(TWO_RINGS, [(0, 1), (3, 4)], False)
        self.check(TWO_RINGS, [(1, 0), (3, 4)], False)
        self.check(TWO_RINGS, [(1, 0), (3, 4), (6, 2)], True)

    def test_by_hand(self):
        self.check(RING, [(0, 1), (2, 3)], True)
        self.check(RING, [(1, 2), (4, 0)], True)
        self.check(RING, [(0, 1)], False)
        self.check(RING, [(0, 1), (1, 2)], False)
        self.check(RING, [(0, 1), (3, 2)], False)
        self.check(RING, [(1, 0), (2, 3)], False)
        self.check(STAR, [(0, 1)], True)
        self.check(STAR, [(59, 0)], True)
        self.check(STAR, [(0, 59)], False)
        self.check(STAR, [(1, 0), (2, 0)], False)

    def test_every_short_list_of_tuples(self):
        for pointing in small_pointings():
            tuples = list(product(range(len(pointing)), repeat=2))
            if len(pointing) == 4:
                tuples = [pair for pair in tuples if pointing[pair[0]] == pair[1] or pointing[pair[1]] == pair[0]]
            for many in range(3):
                for pairs in product(tuples, repeat=many):
                    self.check(pointing, list(pairs), reckoned.is_paired(pointing, pairs))
                    self.check(pointing, pairs, False)

    def test_every_order_of_three_pairs(self):
        pointing = (1, 2, 3, 4, 5, 0)
        for pairs in permutations([(0, 1), (2, 3), (4, 5)]):
            self.check(pointing, list(pairs), list(pairs) == sorted(pairs))

    def right_ones(self):
        for pointing in POINTINGS:
            for labels in three_hues(pointing)[:6]:
                yield pointing, reckoned.paired(pointing, labels)

    def test_one_left_out_or_one_more(self):
        for pointing, right in self.right_ones():
            self.check(pointing, right, True)
            for at in range(len(right)):
                # Its two houses are tied, and no other pair has one of them.
                self.check(pointing, right[:at] + right[at + 1:], False)
            for house, goal in enumerate(pointing):
                if (house, goal) not in right:
                    # Each other one has a house in a pair already.
                    self.check(pointing, sorted(right + [(house, goal)]), False)

    def test_one_turned_about(self):
        for pointing, right in self.right_ones():
            for at, (house, goal) in enumerate(right):
                turned = sorted(right[:at] + [(goal, house)] + right[at + 1:])
                self.check(pointing, turned, pointing[goal] == house)

    def test_a_house_and_not_its_next(self):
        for pointing, right in self.right_ones():
            for at, (house, goal) in enumerate(right):
                for other in range(len(pointing)):
                    if other != goal:
                        self.check(pointing, right[:at] + [(house, other)] + right[at + 1:], False)

    def test_one_twice_or_out_of_order(self):
        for pointing, right in self.right_ones():
            for at, pair in enumerate(right):
                self.check(pointing, right[:at] + [pair] + right[at:], False)
            self.check(pointing, right + right[:1], False)
            if len(right) > 1:
                self.check(pointing, right[::-1], False)
                self.check(pointing, right[1:] + right[:1], False)
                self.check(pointing, right[:-2] + [right[-1], right[-2]], False)

    def test_what_is_no_pair(self):
        for pointing, right in self.right_ones():
            house, goal = right[0]
            others = NO_NUMBERS + (0, 1, -1, SIXTY_FIGURES, "01", [house, goal], (house,), (house, goal, house),
                                   (house, goal, None), ((house, goal),), [(house, goal)], nested(39, tuple))
            for thing in others:
                for at in (0, len(right)):
                    self.check(pointing, right[:at] + [thing] + right[at:], False)
                self.check(pointing, [thing] + right[1:], False)

    def test_what_is_no_house_in_a_pair(self):
        for pointing, right in self.right_ones():
            many = len(pointing)
            house, goal = right[0]
            for thing in NO_NUMBERS + (-1, -many, many, SIXTY_FIGURES, -SIXTY_FIGURES, house - many, goal - many):
                self.check(pointing, [(thing, goal)] + right[1:], False)
                self.check(pointing, [(house, thing)] + right[1:], False)
                self.check(pointing, [(thing, thing)] + right[1:], False)

    def test_a_truth_in_the_stead_of_its_own_number(self):
        for pair in ((0, True), (False, 1), (False, True)):
            self.check((1, 0), [pair], False)
            self.check(RING, [pair, (2, 3)], False)
        for pair in ((1, False), (True, 0), (True, False)):
            self.check((1, 0), [pair], False)
            self.check(STAR, [pair], False)

    def test_other_things(self):
        things = (0, 1, -1, SIXTY_FIGURES, True, False, None, "", "0 1", "[(0, 1)]", [], (), (0, 1), [0, 1], [[0, 1]],
                  ((0, 1),), [[(0, 1)]], nested(40, list), nested(40, tuple))
        for pointing in POINTINGS:
            for thing in things:
                self.check(pointing, thing, False)
            self.check(pointing, list(enumerate(pointing)), False)

    def test_ten_thousand_in_all(self):
        for pointing in ((1, 0), STAR, LONG_RING):
            self.check(pointing, [(0, 1)] * 3333, False)
            self.check(pointing, [(0, 1)] + [None] * 9990, False)
            self.check(pointing, [tuple(range(9990))], False)
            self.check(pointing, [0] * 9999, False)
            self.check(pointing, [() for _ in range(9999)], False)

    def test_what_is_done_behind_a_call_changes_nothing(self):
        thing = [(0, 1), (2, 3)]
        self.check(RING, thing, True)
        thing.pop()
        self.check(RING, thing, False)
        self.check(RING, [(0, 1), (2, 3)], True)


if __name__ == "__main__":
    unittest.main()
