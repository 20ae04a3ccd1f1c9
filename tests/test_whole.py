"""What the document promises over the whole program: points 1, 2, 3 and 10."""

import random
import unittest

import reckoned
from ringhue.apart import apart, is_apart
from ringhue.desk import Desk
from ringhue.halvings import halvings
from ringhue.houses import is_pointing, road
from ringhue.late import Hands
from ringhue.lowered import lowered, most_names, one_round
from ringhue.pairs import is_paired, paired
from ringhue.stands import is_table, stands
from ringhue.steps import is_proper, step
from ringhue.texts import read, shown
from ringhue.three import all_labels, hues, rounds
from ringhue.windows import hue_of
from samples import GREATEST, POINTINGS, drawn_names, drawn_pointings


def things():
    """Pointings, numbers and names for them, the same in each run."""
    draw = random.Random(31)
    for pointing in POINTINGS + tuple(drawn_pointings(20)):
        for m in (60, 257, 2 ** 40, GREATEST):
            yield pointing, m, drawn_names(pointing, m, draw)


class Promise(unittest.TestCase):
    def test_steps_stay_proper_and_below_each_halving(self):
        for pointing, m, names in things():
            labels = names
            for bound in halvings(m):
                self.assertTrue(is_proper(pointing, labels))
                self.assertTrue(all(0 <= label < bound for label in labels))
                labels = step(pointing, labels)

    def test_three_hues_behind_six_rounds_more(self):
        for pointing, m, names in things():
            told = all_labels(pointing, names, m)
            self.assertTrue(is_pointing(pointing))
            self.assertEqual(told[0], names)
            self.assertEqual(told[-1], hues(pointing, names, m))
            self.assertEqual(len(told), rounds(m) + 1)
            self.assertEqual(rounds(m), len(halvings(m)) - 1 + 6)
            self.assertLess(max(told[-7]), 6)
            self.assertLessEqual(set(told[-1]), {0, 1, 2})
            for labels in told:
                self.assertTrue(is_proper(pointing, labels))

    def test_all_ways_come_to_the_same_hues(self):
        for pointing, m, names in things():
            told = hues(pointing, names, m)
            hands = Hands(pointing, names, m)
            while hands.ready():
                for house in reversed(hands.ready()):
                    hands.go(house)
            desk = Desk()
            desk.say("pointing " + shown(pointing))
            desk.say(f"names {m} " + " ".join(map(str, names)))
            said = [int(word) for word in desk.say("hues").split(" ")]
            for house in range(len(pointing)):
                window = [names[one] for one in road(pointing, house, rounds(m))]
                self.assertEqual(hue_of(window, m), told[house])
                self.assertEqual(hands.label(house, rounds(m)), told[house])
                self.assertEqual(said[house], told[house])

    def test_hues_give_full_apart_sets_and_pairs(self):
        for pointing, m, names in things():
            told = hues(pointing, names, m)
            self.assertTrue(is_apart(pointing, apart(pointing, told)))
            self.assertTrue(is_paired(pointing, paired(pointing, told)))

    def test_a_rule_that_colours_all_rings_has_a_table_that_is_lowered(self):
        for m in range(2, 17):
            c, one = one_round(m)
            table, sets = lowered(m, 1, one)
            self.assertTrue(is_table(m, 0, table))
            self.assertLessEqual(len(sets), 2 ** c)
            self.assertLessEqual(m, most_names(c, 1))
            # Two rounds of the steps: of the hues of a stand's halves, the place and bit.
            hue_at = dict(zip(stands(m, 1), one))
            two = [reckoned.stepped(hue_at[stand[:-1]], hue_at[stand[1:]]) for stand in stands(m, 2)]
            self.assertTrue(is_table(m, 2, two))
            table, sets = lowered(m, 2, two)
            self.assertTrue(is_table(m, 1, table))
            self.assertTrue(is_table(m, 0, lowered(m, 1, table)[0]))


class Lists(unittest.TestCase):
    def lists(self):
        """Each list that is told, of one asking."""
        pointing, names = (1, 2, 0, 0), (3, 7, 9, 16)
        labels = hues(pointing, names, 17)
        hands = Hands(pointing, names, 17)
        hands.go(3)
        return [
            road(pointing, 0, 3),
            halvings(17),
            all_labels(pointing, names, 17),
            stands(4, 1),
            *lowered(4, 1, [0, 1, 1, 1, 1, 0]),
            one_round(4)[1],
            apart(pointing, labels),
            paired(pointing, labels),
            hands.done(),
            hands.ready(),
        ]

    def test_no_two_are_one(self):
        first, second = self.lists(), self.lists()
        self.assertEqual(first, second)
        self.assertEqual(len({id(told) for told in first + second}), 2 * len(first))

    def test_what_is_done_to_them_changes_none(self):
        kept = self.lists()
        for told in self.lists():
            told.reverse()
            told.append(None)
        self.assertEqual(self.lists(), kept)

    def test_hands_tell_new_lists_each_time(self):
        hands = Hands((1, 0), (0, 1), 2)
        for call in (hands.done, hands.ready):
            first, kept = call(), call()
            self.assertIsNot(first, kept)
            first.append(5)
            self.assertEqual(call(), kept)
            second = call()
            hands.go(0 if 0 in hands.ready() else 1)
            # None changes by what is done later.
            self.assertEqual(second, kept)


class Again(unittest.TestCase):
    def test_each_answer_comes_again(self):
        for pointing, m, names in things():
            self.assertEqual(all_labels(pointing, names, m), all_labels(pointing, names, m))
            self.assertEqual(read(shown(pointing)), pointing)


if __name__ == "__main__":
    unittest.main()
