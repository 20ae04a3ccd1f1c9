import copy
import unittest
from itertools import product

import reckoned
from ringhue import stands as module
from ringhue.stands import is_table, stands
from samples import NO_NUMBERS, SIXTY_FIGURES, nested, right_tables

NUMBERS = range(2, 17)
ROUNDS = (0, 1, 2)


def as_many(m, t):
    """How many stands there are, as the issue counts them."""
    return (m, m * (m - 1) // 2, m * (m - 1) * (m - 2) // 6)[t]


class Stands(unittest.TestCase):
    def test_by_hand(self):
        self.assertEqual(stands(2, 0), [(0,), (1,)])
        self.assertEqual(stands(2, 1), [(0, 1)])
        self.assertEqual(stands(2, 2), [])
        self.assertEqual(stands(3, 1), [(0, 1), (0, 2), (1, 2)])
        self.assertEqual(stands(3, 2), [(0, 1, 2)])
        self.assertEqual(stands(4, 2), [(0, 1, 2), (0, 1, 3), (0, 2, 3), (1, 2, 3)])

    def test_all_of_them(self):
        for m in NUMBERS:
            for t in ROUNDS:
                with self.subTest(m=m, t=t):
                    told = stands(m, t)
                    self.assertIs(type(told), list)
                    self.assertEqual(told, reckoned.stands(m, t))
                    self.assertEqual(len(told), as_many(m, t))

    def test_rising_tuples_in_a_rising_list(self):
        for m in NUMBERS:
            for t in ROUNDS:
                told = stands(m, t)
                self.assertEqual(told, sorted(set(told)))
                for stand in told:
                    self.assertIs(type(stand), tuple)
                    self.assertEqual(len(stand), t + 1)
                    self.assertEqual(list(stand), sorted(set(stand)))
                    for number in stand:
                        self.assertIs(type(number), int)
                        self.assertIn(number, range(m))

    def test_what_is_told_is_the_askers_own(self):
        for m, t in ((2, 2), (2, 0), (5, 1), (16, 2)):
            first, second = stands(m, t), stands(m, t)
            kept = list(second)
            self.assertIsNot(first, second)
            first.clear()
            first.append((7, 8))
            self.assertEqual(second, kept)
            self.assertEqual(stands(m, t), kept)

    def test_stands_in_its_file(self):
        self.assertEqual(stands.__module__, module.__name__)
        self.assertEqual(is_table.__module__, module.__name__)


class IsTable(unittest.TestCase):
    def check(self, m, t, thing, answer):
        before = copy.deepcopy(thing)
        told = is_table(m, t, thing)
        self.assertIs(told, answer)
        self.assertEqual(thing, before)

    def test_by_hand(self):
        self.check(2, 0, [0, 1], True)
        self.check(2, 0, [5, SIXTY_FIGURES], True)
        self.check(2, 0, [1, 1], False)
        self.check(2, 1, [0], True)
        # (0, 1) and (1, 2) overlap, (0, 2) is alone.
        self.check(3, 1, [0, 0, 1], True)
        self.check(3, 1, [0, 1, 1], True)
        self.check(3, 1, [1, 0, 1], False)
        self.check(3, 2, [0], True)
        # (0, 1, 2) and (1, 2, 3) overlap.
        self.check(4, 2, [0, 0, 0, 1], True)
        self.check(4, 2, [0, 1, 1, 0], False)

    def test_right_tables(self):
        for m in NUMBERS:
            for t in ROUNDS:
                for table in right_tables(m, t):
                    with self.subTest(m=m, t=t, table=table[:5]):
                        self.check(m, t, table, True)

    def test_every_small_table(self):
        for m, t, hues in ((2, 0, 3), (3, 0, 4), (4, 0, 4), (2, 1, 3), (3, 1, 4), (4, 1, 3),
                           (5, 1, 2), (3, 2, 3), (4, 2, 3), (5, 2, 2)):
            overlaps = reckoned.overlaps(m, t)
            for table in product(range(hues), repeat=len(reckoned.stands(m, t))):
                answer = all(table[one] != table[other] for one, other in overlaps)
                self.assertIs(is_table(m, t, list(table)), answer)

    def test_fewer_numbers_than_t_and_two(self):
        # No two stands overlap, so any hues do.
        for table in ([0], [1], [SIXTY_FIGURES]):
            self.check(2, 1, table, True)
            self.check(3, 2, table, True)
        self.check(2, 2, [], True)
        self.check(2, 2, [0], False)
        self.check(2, 2, (), False)
        self.check(2, 2, None, False)
        self.check(2, 2, "", False)

    def test_the_hue_of_a_stand_that_overlaps_it(self):
        for m in (2, 3, 4, 5, 9, 16):
            for t in ROUNDS:
                pairs = reckoned.overlaps(m, t)
                for table in right_tables(m, t):
                    for one, other in pairs[::max(1, len(pairs) // 40)] + pairs[-1:]:
                        wrong = list(table)
                        wrong[one] = table[other]
                        self.assertIs(is_table(m, t, wrong), False)
                        wrong = list(table)
                        wrong[other] = table[one]
                        self.assertIs(is_table(m, t, wrong), False)

    def test_too_few_and_too_many_hues(self):
        for m in (2, 3, 4, 9, 16):
            for t in ROUNDS:
                for table in right_tables(m, t):
                    self.check(m, t, table + [SIXTY_FIGURES], False)
                    self.check(m, t, table + [0], False)
                    self.check(m, t, [SIXTY_FIGURES] + table, False)
                    if table:
                        self.check(m, t, table[:-1], False)
                        self.check(m, t, table[1:], False)
                        self.check(m, t, [], False)

    def test_one_hue_that_is_none(self):
        others = NO_NUMBERS + (-1, -2, -SIXTY_FIGURES, [1, 2], (1, 2), [[]], nested(39, list))
        for m, t in ((2, 0), (5, 0), (2, 1), (3, 1), (6, 1), (3, 2), (6, 2)):
            for table in right_tables(m, t):
                for at in range(len(table)):
                    for thing in others:
                        self.check(m, t, table[:at] + [thing] + table[at + 1:], False)

    def test_a_truth_in_the_stead_of_its_own_number(self):
        self.check(2, 0, [0, True], False)
        self.check(2, 0, [False, 1], False)
        self.check(2, 0, [False, True], False)
        self.check(2, 1, [True], False)
        self.check(3, 2, [False], False)
        self.check(3, 1, [0, 0, True], False)

    def test_all_hues_below_0(self):
        self.check(2, 0, [-1, -2], False)
        self.check(2, 1, [-1], False)
        self.check(3, 2, [-SIXTY_FIGURES], False)

    def test_a_tuple_in_the_lists_stead(self):
        for m in (2, 3, 4, 16):
            for t in ROUNDS:
                for table in right_tables(m, t):
                    self.check(m, t, tuple(table), False)
                    self.check(m, t, [table], False)
                    self.check(m, t, (table,), False)

    def test_other_things(self):
        things = (0, 1, -1, SIXTY_FIGURES, True, False, None, "", "01", "[0, 1]", [], (), [None],
                  ["0", "1"], [[0], [1]], nested(40, list), nested(40, tuple))
        for m, t in ((2, 0), (3, 0), (2, 1), (4, 1), (3, 2), (5, 2), (16, 2)):
            for thing in things:
                self.check(m, t, thing, False)

    def test_ten_thousand_in_all(self):
        for m, t in ((2, 0), (16, 0), (2, 1), (16, 1), (2, 2), (3, 2), (16, 2)):
            self.check(m, t, list(range(9999)), False)
            self.check(m, t, [0] * 9999, False)
            self.check(m, t, (0,) * 9999, False)
            self.check(m, t, [[] for _ in range(9999)], False)
            self.check(m, t, "0" * 10000, False)

    def test_what_is_done_behind_a_call_changes_nothing(self):
        table = [0, 0, 1]
        self.check(3, 1, table, True)
        table[0] = 1
        self.check(3, 1, table, False)
        table.pop()
        self.check(3, 1, table, False)
        self.check(3, 1, [0, 0, 1], True)


if __name__ == "__main__":
    unittest.main()
