import random
import unittest

import reckoned
from ringhue import late
from ringhue.errors import HueError, NoHouse, NotReady
from ringhue.late import Hands
from ringhue.three import all_labels, rounds
from samples import (
    GREATEST,
    LONG_PATH,
    LONG_RING,
    POINTINGS,
    RING,
    SIXTY_FIGURES,
    STAR,
    TREES,
    TWO_RINGS,
    drawn_names,
    drawn_pointings,
    names_for,
    small_pointings,
)

GREAT = (SIXTY_FIGURES, 10 ** 4300, 10 ** 5000)
NO_HOUSES = (-1, -2, -59, -60, -61, 60, 61, 100) + GREAT + tuple(-number for number in GREAT)


def least(ready, draw):
    return ready[0]


def last(ready, draw):
    return ready[-1]


def middle(ready, draw):
    return ready[len(ready) // 2]


def drawn(ready, draw):
    return draw.choice(ready)


def far_as_it_can(ready, draw):
    """The house that went last goes on, till it can't."""
    if draw.favoured not in ready:
        draw.favoured = draw.choice(ready)
    return draw.favoured


ORDERS = (least, last, middle, drawn, drawn, far_as_it_can)


class Model:
    """What hands must tell, reckoned from all labels at once."""

    def __init__(self, pointing, names, m):
        self.pointing = pointing
        self.told = reckoned.all_labels(pointing, names, m)
        self.done = [0] * len(pointing)

    def ready(self):
        return [house for house, goal in enumerate(self.pointing)
                if self.done[house] < len(self.told) - 1 and self.done[goal] >= self.done[house]]

    def go(self, house):
        self.done[house] += 1
        return self.told[self.done[house]][house]

    def label(self, house, k):
        return self.told[k][house] if k <= self.done[house] else None


class HandsTest(unittest.TestCase):
    def same(self, hands, model):
        """Hands and their model tell the same; what is told is changed in between."""
        for _ in range(2):
            done, ready = hands.done(), hands.ready()
            self.assertIs(type(done), list)
            self.assertIs(type(ready), list)
            self.assertEqual(done, model.done)
            self.assertEqual(ready, model.ready())
            self.assertIsNot(done, hands.done())
            self.assertIsNot(ready, hands.ready())
            done.clear()
            ready.append(77)

    def same_labels(self, hands, model):
        for house in range(len(model.pointing)):
            for k in list(range(len(model.told) + 2)) + list(GREAT):
                self.assertEqual(hands.label(house, k), model.label(house, k))

    def went(self, hands, model, house):
        told = hands.go(house)
        self.assertIs(type(told), int)
        self.assertEqual(told, model.go(house))
        self.assertEqual(hands.label(house, model.done[house]), told)

    def not_ready(self, hands, house):
        with self.assertRaises(NotReady) as caught:
            hands.go(house)
        self.assertEqual(caught.exception.house, house)
        self.assertIs(type(caught.exception.house), int)
        self.assertIsInstance(caught.exception, HueError)

    def no_house(self, call, house):
        with self.assertRaises(NoHouse) as caught:
            call()
        self.assertTrue(caught.exception.house == house)
        self.assertIs(type(caught.exception.house), int)
        self.assertIsInstance(caught.exception, HueError)


class Orders(HandsTest):
    def all_go(self, pointing, names, m, order, draw):
        draw.favoured = None
        hands, model = Hands(pointing, names, m), Model(pointing, names, m)
        self.same_labels(hands, model)
        for at in range(len(pointing) * rounds(m)):
            # Till all are done some house can go.
            self.assertNotEqual(model.ready(), [])
            if at % 7 == 0:
                self.same(hands, model)
            self.went(hands, model, order(model.ready(), draw))
            if at % 53 == 0:
                self.same_labels(hands, model)
        self.assertEqual(hands.done(), [rounds(m)] * len(pointing))
        self.assertEqual(hands.ready(), [])
        self.same_labels(hands, model)
        told = [tuple(hands.label(house, k) for house in range(len(pointing))) for k in range(rounds(m) + 1)]
        self.assertEqual(told, all_labels(pointing, names, m))
        for house in range(len(pointing)):
            self.not_ready(hands, house)

    def test_two_houses(self):
        draw = random.Random(1)
        for m in (2, 3, 6, 7, 8, 9, 16, 17, 257, GREATEST - 1, GREATEST):
            for names in ((0, 1), (1, 0), (0, m - 1), (m - 1, m - 2)):
                if names[0] != names[1]:
                    for order in ORDERS:
                        self.all_go((1, 0), names, m, order, draw)

    def test_small_pointings(self):
        draw = random.Random(2)
        for pointing in small_pointings():
            for m in (len(pointing), 6, 17, GREATEST):
                self.all_go(pointing, drawn_names(pointing, m, draw), m, draw.choice(ORDERS), draw)

    def test_rings_and_trees(self):
        draw = random.Random(3)
        for pointing in (RING, TREES, TWO_RINGS, (1, 2, 3, 4, 5, 0)):
            for m, names in names_for(len(pointing)):
                for order in ORDERS:
                    self.all_go(pointing, names, m, order, draw)

    def test_sixty_houses(self):
        draw = random.Random(4)
        for pointing in (STAR, LONG_RING, LONG_PATH):
            for m in (60, 257, GREATEST):
                for order in ORDERS:
                    self.all_go(pointing, drawn_names(pointing, m, draw), m, order, draw)

    def test_drawn_pointings(self):
        draw = random.Random(5)
        for pointing in drawn_pointings(15):
            self.all_go(pointing, drawn_names(pointing, GREATEST, draw), GREATEST, draw.choice(ORDERS), draw)

    def test_by_hand(self):
        hands = Hands((1, 2, 0, 0), (3, 7, 9, 16), 17)
        self.assertEqual(hands.done(), [0, 0, 0, 0])
        self.assertEqual(hands.ready(), [0, 1, 2, 3])
        self.assertEqual(hands.go(3), 0)
        self.assertEqual(hands.ready(), [0, 1, 2])
        self.assertEqual(hands.go(0), 4)
        self.assertEqual(hands.ready(), [1, 2, 3])
        # 0 has done one round, and 3 asks for its label behind that one.
        self.assertEqual(hands.go(3), 4)
        self.assertEqual(hands.go(2), 2)
        # 2 has gone ahead, yet 1 asks for its name.
        self.assertEqual(hands.go(1), 3)
        self.assertEqual(hands.done(), [1, 1, 1, 2])
        self.assertEqual(hands.label(3, 0), 16)
        self.assertEqual(hands.label(3, 1), 0)
        self.assertEqual(hands.label(3, 2), 4)
        self.assertIsNone(hands.label(3, 3))
        self.assertIsNone(hands.label(0, 2))
        self.assertIs(type(hands.label(3, 1)), int)

    def test_one_house_of_a_path_alone(self):
        # Its next has done nothing, so each goes but once.
        hands = Hands(LONG_PATH, tuple(range(60)), 60)
        for house in range(59, 1, -1):
            hands.go(house)
            self.assertNotIn(house, hands.ready())
            self.not_ready(hands, house)

    def test_the_name_for_0_always(self):
        for pointing in POINTINGS:
            names = reckoned.names_below(len(pointing), GREATEST)
            hands = Hands(pointing, names, GREATEST)
            for house in range(len(pointing)):
                self.assertEqual(hands.label(house, 0), names[house])
                self.assertIsNone(hands.label(house, 1))
            while hands.ready():
                hands.go(hands.ready()[-1])
            for house in range(len(pointing)):
                self.assertEqual(hands.label(house, 0), names[house])

    def test_each_is_defined_in_the_class_itself(self):
        self.assertEqual(Hands.__module__, late.__name__)
        for name in ("go", "done", "ready", "label"):
            self.assertIn(name, vars(Hands))


class Refused(HandsTest):
    def test_no_house(self):
        for pointing in POINTINGS:
            many = len(pointing)
            names = tuple(range(many))
            hands, model = Hands(pointing, names, 60), Model(pointing, names, 60)
            for house in NO_HOUSES + (many, many + 1, -many):
                if 0 <= house < many:
                    continue
                self.no_house(lambda: hands.go(house), house)
                for k in (0, 1, 100) + GREAT:
                    self.no_house(lambda: hands.label(house, k), house)
            self.same(hands, model)
            self.same_labels(hands, model)

    def test_no_house_where_all_are_done_too(self):
        hands = Hands((1, 0), (0, 1), 2)
        while hands.ready():
            hands.go(hands.ready()[0])
        for house in (2, -1) + GREAT:
            self.no_house(lambda: hands.go(house), house)
            self.no_house(lambda: hands.label(house, 0), house)
        self.not_ready(hands, 0)
        self.not_ready(hands, 1)

    def test_its_next_has_done_fewer(self):
        hands = Hands((1, 0), (0, 1), 2)
        for _ in range(6):
            hands.go(0)
            self.not_ready(hands, 0)
            self.assertEqual(hands.ready(), [1])
            hands.go(1)
        self.assertEqual(hands.ready(), [])

    def test_no_rounds_left(self):
        for m in (6, 17, GREATEST):
            hands = Hands(TREES, (0, 1, 2, 3, 4, 5), m)
            for _ in range(rounds(m)):
                for house in range(6):
                    self.assertIn(house, hands.ready())
                    hands.go(house)
            for house in range(6):
                self.not_ready(hands, house)
            self.assertEqual(hands.done(), [rounds(m)] * 6)

    def test_what_is_refused_changes_nothing(self):
        draw = random.Random(6)
        for pointing in (RING, TREES, TWO_RINGS, STAR):
            names = drawn_names(pointing, GREATEST, draw)
            hands, model = Hands(pointing, names, GREATEST), Model(pointing, names, GREATEST)
            while model.ready():
                for house in range(len(pointing)):
                    if house not in model.ready():
                        self.not_ready(hands, house)
                self.no_house(lambda: hands.go(len(pointing)), len(pointing))
                self.no_house(lambda: hands.label(-1, 0), -1)
                self.same(hands, model)
                self.went(hands, model, draw.choice(model.ready()))
            self.same_labels(hands, model)


class Several(HandsTest):
    def test_two_of_one_pointing_and_names(self):
        draw = random.Random(7)
        for pointing in (RING, TREES, (1, 0)):
            names = drawn_names(pointing, GREATEST, draw)
            both = [(Hands(pointing, names, GREATEST), Model(pointing, names, GREATEST)) for _ in range(2)]
            while any(model.ready() for _, model in both):
                hands, model = draw.choice([pair for pair in both if pair[1].ready()])
                self.went(hands, model, draw.choice(model.ready()))
                for hands, model in both:
                    self.same(hands, model)
            for hands, model in both:
                self.same_labels(hands, model)

    def test_one_goes_and_the_other_stays(self):
        names = (3, 7, 9, 16)
        first, second = Hands((1, 2, 0, 0), names, 17), Hands((1, 2, 0, 0), names, 17)
        while first.ready():
            first.go(first.ready()[0])
        self.assertEqual(second.done(), [0, 0, 0, 0])
        self.assertEqual(second.ready(), [0, 1, 2, 3])
        self.assertIsNone(second.label(0, 1))
        self.assertEqual(second.go(0), 4)
        self.assertEqual(first.done(), [9, 9, 9, 9])

    def test_of_two_pointings_and_numbers(self):
        first, second = Hands((1, 0), (0, 1), 2), Hands(RING, (4, 3, 2, 1, 0), 17)
        self.assertEqual(first.go(1), 0)
        self.assertEqual(second.ready(), [0, 1, 2, 3, 4])
        self.assertEqual(len(second.done()), 5)
        self.no_house(lambda: first.go(2), 2)
        self.assertEqual(second.label(2, 0), 2)


if __name__ == "__main__":
    unittest.main()
