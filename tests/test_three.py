import unittest
from itertools import permutations, product

import reckoned
from ringhue import three
from ringhue.errors import HueError, NotProper
from ringhue.halvings import halvings, shortened
from ringhue.three import all_labels, hues, rounds, taken_away
from samples import (
    GREATEST,
    LONG_PATH,
    LONG_RING,
    POINTINGS,
    RING,
    TREES,
    names_for,
    proper_labels,
    small_pointings,
)

HUES = (0, 1, 2, 3, 4, 5, 6, GREATEST)


class TakenAway(unittest.TestCase):
    def check(self, pointing, labels, hue, told):
        answer = taken_away(pointing, labels, hue)
        self.assertIs(type(answer), tuple)
        self.assertEqual(answer, told)
        for label in answer:
            self.assertIs(type(label), int)

    def test_a_hue_that_no_house_has(self):
        self.check(RING, (0, 1, 2, 3, 4), 5, (1, 2, 3, 4, 0))
        self.check(RING, (0, 1, 2, 3, 4), GREATEST, (1, 2, 3, 4, 0))
        self.check((1, 0), (7, 9), 3, (9, 7))
        self.check(TREES, (0, 1, 2, 3, 4, 5), 6, (1, 2, 0, 0, 3, 1))
        self.check((1, 2, 0), (1, 2, 3), 0, (2, 3, 1))

    def test_a_hue_that_one_house_has(self):
        # Behind the first round 1, 2, 3, 4, 0: house 3 has 4, its next 0, ahead it had 3.
        self.check(RING, (0, 1, 2, 3, 4), 4, (1, 2, 3, 1, 0))
        # House 1 has the 1, its next 0 behind the first round, ahead it had 2.
        self.check((1, 2, 0), (0, 2, 1), 1, (2, 1, 0))
        # House 0 has the 7, its next 9 then, ahead it had 9.
        self.check((1, 0), (9, 7), 7, (0, 9))
        self.check((1, 0), (GREATEST, 0), GREATEST, (0, 1))
        self.check((1, 0), (0, GREATEST), GREATEST, (1, 0))

    def test_a_hue_that_several_houses_have(self):
        # 2, 3 and 5 have the 4 of their next 0 behind the first round, 4 has 0 of its next 1.
        pointing = (1, 4, 0, 0, 1, 0)
        labels = (4, 0, 0, 1, 2, 3)
        self.assertEqual(reckoned.clashing(pointing, labels), [])
        # The first round gives 0, 2, 4, 4, 0, 4: next of 2, 3, 5 has 0, ahead they had 0, 1, 3.
        self.check(pointing, labels, 4, (0, 2, 1, 2, 0, 1))

    def test_the_hues_that_are_left(self):
        # Nobody who has 0 is barred from it, so it comes back at once.
        self.check((1, 0), (0, 1), 0, (1, 0))
        # House 0 has 1, its next 0 then and it itself ahead: 1 is the least that is left.
        self.check((1, 0), (0, 1), 1, (1, 0))
        # House 0 has 1, its next 2 then and it itself ahead: 0 is.
        self.check((1, 0), (2, 1), 1, (0, 2))
        self.check((1, 0), (0, 1), 2, (1, 0))
        self.check((1, 0), (2, 1), 2, (1, 0))
        self.check((1, 2, 0), (1, 0, 2), 0, (0, 2, 1))
        self.check((1, 2, 0, 0), (0, 1, 2, 1), 0, (1, 2, 0, 0))

    def test_every_small_pointing(self):
        for pointing in small_pointings():
            for labels in product((0, 1, 2, 3), repeat=len(pointing)):
                if not reckoned.clashing(pointing, labels):
                    for hue in (0, 1, 2, 3, 4):
                        told = reckoned.taking(pointing, labels, hue)[-1]
                        self.check(pointing, labels, hue, told)

    def test_as_reckoned(self):
        for pointing in POINTINGS:
            for labels in proper_labels(pointing):
                for hue in HUES + (labels[0], labels[-1]):
                    told = reckoned.taking(pointing, labels, hue)[-1]
                    self.check(pointing, labels, hue, told)

    def test_proper_and_gone(self):
        for pointing in POINTINGS:
            for labels in proper_labels(pointing):
                for hue in HUES + labels:
                    told = taken_away(pointing, labels, hue)
                    self.assertEqual(reckoned.clashing(pointing, told), [])
                    if hue > 2:
                        self.assertNotIn(hue, told)

    def test_what_is_handed_in_stays(self):
        pointing, labels = (1, 2, 0, 0), (3, 4, 5, 4)
        first = taken_away(pointing, labels, 4)
        self.assertEqual((pointing, labels), ((1, 2, 0, 0), (3, 4, 5, 4)))
        self.assertEqual(taken_away(pointing, labels, 4), first)

    def test_stands_in_its_file(self):
        for function in (taken_away, hues, all_labels, rounds):
            self.assertEqual(function.__module__, three.__name__)


class Refused(unittest.TestCase):
    def refused(self, pointing, labels, hue, house):
        with self.assertRaises(NotProper) as caught:
            taken_away(pointing, labels, hue)
        self.assertEqual(caught.exception.house, house)
        self.assertIs(type(caught.exception.house), int)
        self.assertIsInstance(caught.exception, HueError)

    def test_whether_or_not_a_house_has_the_hue(self):
        for hue in HUES:
            self.refused((1, 0), (0, 0), hue, 0)
            self.refused((1, 0), (4, 4), hue, 0)
            self.refused((1, 0), (GREATEST, GREATEST), hue, 0)
            self.refused(RING, (0, 1, 0, 1, 0), hue, 4)
            self.refused(RING, (0, 1, 1, 2, 2), hue, 1)
            self.refused(TREES, (0, 1, 2, 3, 3, 1), hue, 4)

    def test_every_small_pointing(self):
        for pointing in small_pointings():
            for labels in product((0, 3, 5), repeat=len(pointing)):
                wrong = reckoned.clashing(pointing, labels)
                for hue in (0, 3, 4):
                    if wrong:
                        self.refused(pointing, labels, hue, wrong[0])

    def test_one_house(self):
        for pointing in POINTINGS:
            for labels in proper_labels(pointing):
                for house, goal in enumerate(pointing):
                    wrong = labels[:house] + (labels[goal],) + labels[house + 1:]
                    self.refused(pointing, wrong, 3, reckoned.clashing(pointing, wrong)[0])


class AllLabels(unittest.TestCase):
    def check(self, pointing, names, m):
        answer = all_labels(pointing, names, m)
        self.assertIs(type(answer), list)
        for labels in answer:
            self.assertIs(type(labels), tuple)
        self.assertEqual(answer, reckoned.all_labels(pointing, names, m))
        self.assertEqual(answer[0], names)
        self.assertEqual(answer[-7], shortened(pointing, names, m))
        self.assertEqual(answer[-5], taken_away(pointing, answer[-7], 5))
        self.assertEqual(answer[-3], taken_away(pointing, answer[-5], 4))
        self.assertEqual(answer[-1], taken_away(pointing, answer[-3], 3))
        self.assertEqual(answer[-1], hues(pointing, names, m))
        self.assertEqual(len(answer), rounds(m) + 1)
        self.assertEqual(len(answer), len(halvings(m)) + 6)
        for labels in answer:
            self.assertEqual(reckoned.clashing(pointing, labels), [])

    def test_by_hand(self):
        # Nobody has 5, 4 or 3, so the labels go around only.
        there, back = (0, 1), (1, 0)
        told = [there, back, back, there, there, back, back]
        self.assertEqual(all_labels((1, 0), (0, 1), 2), told)
        told = [
            (3, 7, 9, 16),
            (4, 3, 2, 0),
            (0, 1, 3, 4),
            (0, 2, 1, 5),
            (2, 1, 0, 0),
            (2, 1, 0, 0),
            (1, 0, 2, 2),
            (1, 0, 2, 2),
            (0, 2, 1, 1),
            (0, 2, 1, 1),
        ]
        self.assertEqual(all_labels((1, 2, 0, 0), (3, 7, 9, 16), 17), told)

    def test_all_three_hues_go_by_hand(self):
        told = [
            (0, 5, 3, 4, 1, 2),
            (5, 3, 4, 1, 2, 0),
            (1, 3, 4, 1, 2, 0),
            (3, 4, 1, 2, 0, 1),
            (3, 0, 1, 2, 0, 1),
            (0, 1, 2, 0, 1, 3),
            (0, 1, 2, 0, 1, 2),
        ]
        self.assertEqual(all_labels((1, 2, 3, 4, 5, 0), told[0], 6), told)

    def test_small_names(self):
        for pointing in small_pointings():
            for m in range(len(pointing), 6):
                for names in permutations(range(m), len(pointing)):
                    self.check(pointing, names, m)

    def test_more_houses(self):
        for pointing in POINTINGS:
            for m, names in names_for(len(pointing)):
                with self.subTest(pointing=pointing, m=m):
                    self.check(pointing, names, m)

    def test_what_is_told_is_the_askers_own(self):
        for names, m in (((3, 2, 1, 0), 4), ((3, 7, 9, 16), 17), ((9, GREATEST - 1, 0, 5), GREATEST)):
            pointing = (1, 2, 0, 0)
            first = all_labels(pointing, names, m)
            second = all_labels(pointing, names, m)
            kept = list(second)
            self.assertIsNot(first, second)
            first[0] = (0, 0, 0, 0)
            del first[2:]
            first.append(77)
            self.assertEqual(second, kept)
            self.assertEqual(all_labels(pointing, names, m), kept)
            self.assertEqual(hues(pointing, names, m), kept[-1])

    def test_what_is_handed_in_stays(self):
        names = reckoned.names_below(60, GREATEST)
        kept = tuple(list(names))
        all_labels(LONG_RING, names, GREATEST)
        self.assertEqual(names, kept)


class Hues(unittest.TestCase):
    def check(self, pointing, names, m):
        answer = hues(pointing, names, m)
        self.assertIs(type(answer), tuple)
        self.assertEqual(len(answer), len(pointing))
        for hue in answer:
            self.assertIs(type(hue), int)
            self.assertIn(hue, (0, 1, 2))
        self.assertEqual(reckoned.clashing(pointing, answer), [])
        self.assertEqual(answer, reckoned.all_labels(pointing, names, m)[-1])

    def test_two_houses(self):
        self.assertEqual(hues((1, 0), (0, 1), 2), (1, 0))
        self.assertEqual(hues((1, 0), (1, 0), 2), (0, 1))
        for m in range(2, 20):
            for names in permutations(range(m), 2):
                self.check((1, 0), names, m)
        for m in (2, 6, 7, 8, 9, 16, 17, 257, GREATEST - 1, GREATEST):
            for names in ((0, 1), (0, m - 1), (m - 1, 0), (m - 2, m - 1), (m // 2, 0)):
                if names[0] != names[1]:
                    self.check((1, 0), names, m)

    def test_three_houses(self):
        for m in (3, 4, 5, 6, 7, 8, 9, 17):
            for names in permutations(range(m), 3):
                self.check((1, 2, 0), names, m)
                self.check((1, 0, 0), names, m)

    def test_up_to_sixty_houses(self):
        for pointing in POINTINGS:
            for m, names in names_for(len(pointing)):
                with self.subTest(pointing=pointing, m=m):
                    self.check(pointing, names, m)


    def test_names_off_the_road_change_no_hue(self):
        # The road of a house of the path goes to lesser houses alone.
        names = reckoned.names_below(60, GREATEST)
        told = hues(LONG_PATH, names, GREATEST)
        for house in range(1, 59):
            others = tuple(reversed(names[house + 1:]))
            answer = hues(LONG_PATH, names[:house + 1] + others, GREATEST)
            self.assertEqual(answer[:house + 1], told[:house + 1])


class Rounds(unittest.TestCase):
    def test_six_without_steps(self):
        for m in range(2, 7):
            self.assertEqual(rounds(m), 6)
            self.assertIs(type(rounds(m)), int)

    def test_by_hand(self):
        told = {7: 7, 8: 7, 9: 8, 16: 8, 17: 9, 256: 9, 257: 10, GREATEST - 1: 10, GREATEST: 10}
        for m, many in told.items():
            with self.subTest(m=m):
                self.assertEqual(rounds(m), many)

    def test_the_steps_and_six(self):
        for m in list(range(2, 1000)) + [2 ** place for place in range(10, 60)] + [GREATEST]:
            self.assertEqual(rounds(m), len(reckoned.halvings(m)) + 5)
            self.assertLessEqual(rounds(m), 10)


if __name__ == "__main__":
    unittest.main()
