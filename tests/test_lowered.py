import copy
import random
import unittest
from itertools import product

import reckoned
from ringhue import lowered as module
from ringhue.lowered import lowered, most_names, one_round
from ringhue.stands import is_table
from samples import SIXTY_FIGURES, right_tables

NUMBERS = range(2, 17)


def drawn_tables(m, t, many):
    """So many right tables, each with hues drawn from those that are free in each stand's turn."""
    draw = random.Random(17 * m + t)
    bars = {}
    for one, other in reckoned.overlaps(m, t):
        bars.setdefault(one, []).append(other)
        bars.setdefault(other, []).append(one)
    found = []
    for at in range(many):
        hues = [draw.randrange(10 ** 60) for _ in range(6 + 10 * at)] + list(range(6))
        table = {}
        for stand in range(len(reckoned.stands(m, t))):
            barred = [table.get(other) for other in bars.get(stand, [])]
            free = [hue for hue in hues if hue not in barred]
            table[stand] = draw.choice(free or [len(hues) + stand])
        found.append(list(table.values()))
    return found


class Lowered(unittest.TestCase):
    def check(self, m, t, table):
        self.assertIs(is_table(m, t, table), True)
        before = copy.deepcopy(table)
        answer = lowered(m, t, table)
        self.assertEqual(table, before)
        self.assertIs(type(answer), tuple)
        self.assertEqual(len(answer), 2)
        told, sets = answer
        self.assertIs(type(told), list)
        self.assertIs(type(sets), list)
        for one in sets:
            self.assertIs(type(one), tuple)
            self.assertEqual(list(one), sorted(set(one)))
        for hue in told:
            self.assertIs(type(hue), int)
        self.assertEqual(answer, reckoned.lowered(m, t, table))
        self.assertIs(is_table(m, t - 1, told), True)
        self.assertEqual(len(set(sets)), len(sets))
        self.assertLessEqual(len(sets), 2 ** len(set(table)))
        # Each new hue comes first in its turn.
        self.assertEqual(list(dict.fromkeys(told)), list(range(len(sets))))
        return answer

    def test_one_round_by_hand(self):
        self.assertEqual(lowered(2, 1, [7]), ([0, 1], [(7,), ()]))
        # (0, 1), (0, 2) go on from 0, (1, 2) from 1, none from 2.
        self.assertEqual(lowered(3, 1, [4, 4, 9]), ([0, 1, 2], [(4,), (9,), ()]))
        self.assertEqual(lowered(3, 1, [4, 2, 9]), ([0, 1, 2], [(2, 4), (9,), ()]))
        # Three, two, one and none go on from 0, 1, 2 and 3.
        self.assertEqual(lowered(4, 1, [0, 5, 3, 1, 1, 0]),
                         ([0, 1, 2, 3], [(0, 3, 5), (1,), (0,), ()]))

    def test_two_rounds_by_hand(self):
        self.assertEqual(lowered(2, 2, []), ([0], [()]))
        self.assertEqual(lowered(3, 2, [6]), ([0, 1, 1], [(6,), ()]))
        # (0, 1) has (0, 1, 2) and (0, 1, 3), (0, 2) has (0, 2, 3), (1, 2) has (1, 2, 3).
        self.assertEqual(lowered(4, 2, [0, 0, 0, 1]), ([0, 0, 1, 2, 1, 1], [(0,), (), (1,)]))
        self.assertEqual(lowered(4, 2, [8, 3, 3, 8 + 1]),
                         ([0, 1, 2, 3, 2, 2], [(3, 8), (3,), (), (9,)]))

    def test_right_tables(self):
        for m in NUMBERS:
            for t in (1, 2):
                for table in right_tables(m, t):
                    with self.subTest(m=m, t=t, table=table[:5]):
                        self.check(m, t, table)

    def test_drawn_tables(self):
        for m in NUMBERS:
            for t in (1, 2):
                for table in drawn_tables(m, t, 8):
                    self.check(m, t, table)

    def test_every_small_table(self):
        for m, t, hues in ((2, 1, 4), (3, 1, 4), (4, 1, 3), (5, 1, 3), (2, 2, 1), (3, 2, 4), (4, 2, 4), (5, 2, 2)):
            overlaps = reckoned.overlaps(m, t)
            for table in product(range(hues), repeat=len(reckoned.stands(m, t))):
                if all(table[one] != table[other] for one, other in overlaps):
                    self.check(m, t, list(table))

    def test_twice(self):
        for m in NUMBERS:
            for table in right_tables(m, 2) + drawn_tables(m, 2, 3):
                told, sets = self.check(m, 2, table)
                last, last_sets = self.check(m, 1, told)
                # Right for no rounds, so it has as many hues as names.
                self.assertEqual(last, list(range(m)))
                self.assertEqual(len(last_sets), m)
                self.assertLessEqual(m, 2 ** len(sets))

    def test_hues_of_sixty_figures(self):
        table = [SIXTY_FIGURES, SIXTY_FIGURES - 1, SIXTY_FIGURES - 2]
        self.assertEqual(lowered(3, 1, table), (
            [0, 1, 2], [(SIXTY_FIGURES - 1, SIXTY_FIGURES), (SIXTY_FIGURES - 2,), ()]))

    def test_what_is_told_is_the_askers_own(self):
        for m, t, table in ((3, 1, [4, 2, 9]), (4, 2, [0, 0, 0, 1]), (2, 2, []), (16, 1, one_round(16)[1])):
            first, second = lowered(m, t, table), lowered(m, t, table)
            kept = copy.deepcopy(second)
            self.assertIsNot(first[0], second[0])
            self.assertIsNot(first[1], second[1])
            self.assertIsNot(first[0], table)
            for told in first:
                told.clear()
                told.append(77)
            self.assertEqual(second, kept)
            self.assertEqual(lowered(m, t, table), kept)
            table.append(5)
            self.assertEqual(second, kept)

    def test_stands_in_its_file(self):
        for function in (lowered, most_names, one_round):
            self.assertEqual(function.__module__, module.__name__)


class MostNames(unittest.TestCase):
    def test_by_hand(self):
        told = {
            (1, 0): 1, (2, 0): 2, (3, 0): 3, (4, 0): 4, (5, 0): 5,
            (1, 1): 2, (2, 1): 4, (3, 1): 8, (4, 1): 16, (5, 1): 32,
            (1, 2): 4, (2, 2): 16, (3, 2): 256, (4, 2): 65536, (5, 2): 2 ** 32,
        }
        for (c, t), names in told.items():
            with self.subTest(c=c, t=t):
                self.assertEqual(most_names(c, t), names)
                self.assertIs(type(most_names(c, t)), int)

    def test_two_to_the_power_of_those_for_one_round_fewer(self):
        for c in range(1, 6):
            self.assertEqual(most_names(c, 0), c)
            for t in (1, 2):
                self.assertEqual(most_names(c, t), 2 ** most_names(c, t - 1))

    def test_no_right_table_of_more_names(self):
        for c, t in ((1, 0), (2, 0), (3, 0), (1, 1), (2, 1)):
            m = most_names(c, t) + 1
            for table in product(range(c), repeat=len(reckoned.stands(m, t))):
                self.assertIs(is_table(m, t, list(table)), False)
        for m in NUMBERS:
            for t in (0, 1, 2):
                for table in right_tables(m, t):
                    if len(set(table)) <= 5 and table:
                        self.assertLessEqual(m, most_names(len(set(table)), t))


class OneRound(unittest.TestCase):
    def test_fewest_hues_and_a_right_table(self):
        for m in NUMBERS:
            with self.subTest(m=m):
                answer = one_round(m)
                self.assertIs(type(answer), tuple)
                c, table = answer
                self.assertIs(type(c), int)
                self.assertIs(type(table), list)
                self.assertGreaterEqual(2 ** c, m)
                self.assertLess(2 ** (c - 1), m)
                self.assertGreaterEqual(most_names(c, 1), m)
                self.assertEqual(len(table), m * (m - 1) // 2)
                for hue in table:
                    self.assertIs(type(hue), int)
                    self.assertIn(hue, range(c))
                for one, other in reckoned.overlaps(m, 1):
                    self.assertNotEqual(table[one], table[other])
                self.assertIs(is_table(m, 1, table), True)

    def test_by_hand(self):
        self.assertEqual(one_round(2), (1, [0]))
        told = {2: 1, 3: 2, 4: 2, 5: 3, 6: 3, 7: 3, 8: 3, 9: 4, 10: 4, 11: 4, 12: 4, 13: 4, 14: 4, 15: 4, 16: 4}
        for m, c in told.items():
            self.assertEqual(one_round(m)[0], c)

    def test_lowered_it_has_as_many_sets_as_names(self):
        for m in NUMBERS:
            self.assertEqual(len(lowered(m, 1, one_round(m)[1])[1]), m)

    def test_what_is_told_is_the_askers_own(self):
        for m in NUMBERS:
            first, second = one_round(m), one_round(m)
            kept = copy.deepcopy(second)
            self.assertIsNot(first[1], second[1])
            first[1].reverse()
            first[1].append(77)
            self.assertEqual(second, kept)
            self.assertIs(is_table(m, 1, one_round(m)[1]), True)


if __name__ == "__main__":
    unittest.main()
