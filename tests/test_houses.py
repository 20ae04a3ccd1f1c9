import copy
import unittest
from itertools import product

from ringhue import houses
from ringhue.houses import is_pointing, road
from samples import (
    LONG_PATH,
    LONG_RING,
    POINTINGS,
    RING,
    SIXTY_FIGURES,
    STAR,
    TREES,
    TWO_RINGS,
    nested,
    small_pointings,
)

# What no house is, whatever the pointing.
NO_HOUSES = (
    True,
    False,
    None,
    "",
    "0",
    "1",
    [],
    [1],
    (),
    (0,),
    -1,
    -2,
    60,
    61,
    SIXTY_FIGURES,
    -SIXTY_FIGURES,
)


class IsPointing(unittest.TestCase):
    def check(self, thing, answer):
        before = copy.deepcopy(thing)
        told = is_pointing(thing)
        self.assertIs(told, answer)
        self.assertEqual(thing, before)

    def test_pointings(self):
        for pointing in POINTINGS:
            with self.subTest(pointing=pointing):
                self.check(pointing, True)

    def test_fewest_and_most_houses(self):
        self.check((1, 0), True)
        self.check((1,) + (0,) * 59, True)
        self.check((), False)
        self.check((0,), False)
        self.check((1,), False)
        self.check((1,) + (0,) * 60, False)
        self.check(tuple((house + 1) % 61 for house in range(61)), False)
        self.check((1,) + (0,) * 9998, False)

    def test_every_small_tuple(self):
        right = set(small_pointings())
        for many in (2, 3, 4):
            for goals in product(range(-1, many + 1), repeat=many):
                self.check(goals, goals in right)

    def test_a_house_that_points_to_itself(self):
        for pointing in POINTINGS:
            for house in range(len(pointing)):
                self.check(pointing[:house] + (house,) + pointing[house + 1:], False)

    def test_the_number_of_houses_and_beyond(self):
        for pointing in POINTINGS:
            many = len(pointing)
            for house in range(many):
                for goal in (many, many + 1, SIXTY_FIGURES, -1, -many, -SIXTY_FIGURES):
                    self.check(pointing[:house] + (goal,) + pointing[house + 1:], False)

    def test_other_kinds_in_any_place(self):
        for pointing in ((1, 0), (1, 0, 1, 0), TREES, STAR, LONG_RING):
            for house in range(len(pointing)):
                for thing in NO_HOUSES:
                    self.check(pointing[:house] + (thing,) + pointing[house + 1:], False)

    def test_a_truth_in_the_stead_of_its_own_number(self):
        self.check((True, 0), False)
        self.check((1, False), False)
        self.check((True, False), False)
        self.check((1, 0, False), False)
        self.check((1, 0, True), False)

    def test_a_list_in_the_stead_of_the_tuple(self):
        for pointing in POINTINGS:
            self.check(list(pointing), False)

    def test_other_things(self):
        things = (0, 1, -1, SIXTY_FIGURES, True, False, None, "", "1 0", "ab", [], [[1, 0]])
        for thing in things:
            self.check(thing, False)
        self.check(((1, 0), (1, 0)), False)

    def test_forty_within_one_another(self):
        for kind in (tuple, list):
            deep = nested(40, kind)
            self.check(deep, False)
            self.check((deep, 0), False)
            self.check((1, deep), False)
            self.check([1, deep], False)

    def test_ten_thousand_in_all(self):
        self.check((0,) * 9999, False)
        self.check([0] * 9999, False)
        self.check(tuple([] for _ in range(9999)), False)

    def test_what_is_done_behind_a_call_changes_nothing(self):
        inner = [0]
        thing = (1, inner)
        self.check(thing, False)
        inner.clear()
        self.check(thing, False)
        self.check((1, 0), True)

    def test_stands_in_its_file(self):
        self.assertEqual(is_pointing.__module__, houses.__name__)
        self.assertEqual(road.__module__, houses.__name__)


class Road(unittest.TestCase):
    def check(self, pointing, house, k, told):
        answer = road(pointing, house, k)
        self.assertIs(type(answer), list)
        self.assertEqual(answer, told)
        for one in answer:
            self.assertIs(type(one), int)

    def test_on_a_ring(self):
        self.check(RING, 0, 0, [0])
        self.check(RING, 3, 0, [3])
        self.check(RING, 3, 1, [3, 4])
        self.check(RING, 4, 1, [4, 0])
        self.check(RING, 3, 7, [3, 4, 0, 1, 2, 3, 4, 0])
        self.check(RING, 2, 100, [(2 + at) % 5 for at in range(101)])

    def test_off_a_ring(self):
        self.check(TREES, 4, 0, [4])
        self.check(TREES, 4, 1, [4, 3])
        self.check(TREES, 4, 3, [4, 3, 0, 1])
        self.check(TREES, 4, 100, [4, 3] + [at % 3 for at in range(99)])
        self.check(TREES, 5, 5, [5, 1, 2, 0, 1, 2])
        self.check(TWO_RINGS, 6, 4, [6, 2, 3, 4, 2])
        self.check(TWO_RINGS, 5, 4, [5, 0, 1, 0, 1])

    def test_two_that_point_to_each_other(self):
        self.check((1, 0), 0, 0, [0])
        self.check((1, 0), 1, 1, [1, 0])
        self.check((1, 0), 1, 100, [1, 0] * 50 + [1])

    def test_sixty_houses(self):
        self.check(LONG_RING, 59, 1, [59, 0])
        self.check(LONG_RING, 17, 100, [(17 + at) % 60 for at in range(101)])
        self.check(LONG_PATH, 59, 59, list(range(59, -1, -1)))
        self.check(LONG_PATH, 59, 100, list(range(59, -1, -1)) + [1, 0] * 20 + [1])

    def test_as_the_words_say_it(self):
        for pointing in POINTINGS:
            for house in range(len(pointing)):
                for k in (0, 1, 2, 5, 100):
                    told = road(pointing, house, k)
                    self.assertEqual(len(told), k + 1)
                    self.assertEqual(told[0], house)
                    for one, following in zip(told, told[1:]):
                        self.assertEqual(pointing[one], following)

    def test_what_is_told_is_the_askers_own(self):
        for pointing in (RING, TREES, (1, 0)):
            for k in (0, 1, 100):
                first = road(pointing, 1, k)
                kept = list(first)
                second = road(pointing, 1, k)
                self.assertIsNot(first, second)
                first.clear()
                first.append(77)
                self.assertEqual(second, kept)
                self.assertEqual(road(pointing, 1, k), kept)

    def test_what_is_handed_in_stays(self):
        pointing = tuple(list(TREES))
        road(pointing, 4, 100)
        self.assertEqual(pointing, (1, 2, 0, 0, 3, 1))


if __name__ == "__main__":
    unittest.main()
