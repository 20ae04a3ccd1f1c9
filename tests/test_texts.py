import unittest
from itertools import product

from ringhue import texts
from ringhue.errors import NoText
from ringhue.houses import is_pointing
from ringhue.texts import read, shown
from samples import LONG_PATH, POINTINGS, TREES, small_pointings

# From the blank to ~ but the percent sign, tabs and line feeds.
SIGNS = [chr(code) for code in range(32, 127) if code != 37] + ["\t", "\n"]
FIGURES = "0123456789"


def wordings(pointing):
    """How a pointing is written, worked out without the program."""
    text = str(pointing[0])
    for goal in pointing[1:]:
        text = text + " " + str(goal)
    return text


class Shown(unittest.TestCase):
    def test_of_the_document(self):
        self.assertEqual(shown((1, 2, 0, 0)), "1 2 0 0")

    def test_one_blank_between(self):
        self.assertEqual(shown((1, 0)), "1 0")
        self.assertEqual(shown(TREES), "1 2 0 0 3 1")
        numbers = " ".join(str(goal) for goal in range(59))
        self.assertEqual(shown(LONG_PATH), "1 " + numbers)

    def test_every_small_pointing(self):
        for pointing in small_pointings():
            self.assertEqual(shown(pointing), wordings(pointing))

    def test_stands_in_its_file(self):
        self.assertEqual(shown.__module__, texts.__name__)
        self.assertEqual(read.__module__, texts.__name__)


class Read(unittest.TestCase):
    def same(self, pointing):
        told = read(shown(pointing))
        self.assertIs(type(told), tuple)
        self.assertEqual(told, pointing)
        for goal in told:
            self.assertIs(type(goal), int)

    def test_gives_the_same_back(self):
        for pointing in POINTINGS:
            self.same(pointing)
        for pointing in small_pointings():
            self.same(pointing)

    def test_of_the_document(self):
        self.assertEqual(read("1 2 0 0"), (1, 2, 0, 0))


class Refused(unittest.TestCase):
    def refused(self, text):
        with self.assertRaises(NoText) as caught:
            read(text)
        self.assertEqual(caught.exception.text, text)

    def test_the_empty_text(self):
        self.refused("")

    def test_blanks(self):
        for text in (" ", "  ", " 1 0", "1 0 ", "1  0", "1 2  0 0", " 1 0 ", "1 0  "):
            self.refused(text)

    def test_tabs_and_line_feeds(self):
        for sign in ("\t", "\n"):
            self.refused(sign)
            self.refused("1" + sign + "0")
            for at in range(len("1 2 0 0") + 1):
                self.refused("1 2 0 0"[:at] + sign + "1 2 0 0"[at:])

    def test_a_nought_ahead(self):
        for text in ("01 0", "1 00", "1 2 0 00", "00 0", "1 02 0", "001 0", "1 000"):
            self.refused(text)

    def test_other_signs(self):
        for word in ("+1", "-1", "1_0", "1.0", "1.", "a", "x1", "1x", "0x1", "0b1", "1e0", "'1'"):
            self.refused(word + " 0")
            self.refused("1 2 0 " + word)
        for text in ('"1" 0', "1,0", "(1, 0)", "1 0;", "1, 0", "1 0 None", "True False"):
            self.refused(text)

    def test_every_sign_in_every_place(self):
        for sign in SIGNS:
            if sign in FIGURES:
                continue
            for at in (0, 1, 2, 6, 7):
                self.refused("1 2 0 0"[:at] + sign + "1 2 0 0"[at:])
            if sign != " ":
                self.refused("1" + sign + "2 0 0")
                self.refused(sign)

    def test_figures_of_other_scripts(self):
        for figure in ("\u0661", "\u00b9", "\uff11"):
            self.refused(figure + " 0")

    def test_too_few_and_too_many(self):
        for text in ("0", "1", "59", "1" + " 0" * 60, "1" + " 0" * 61, "1" + " 0" * 2999):
            self.refused(text)
        self.assertEqual(read("1" + " 0" * 59), (1,) + (0,) * 59)

    def test_numbers_that_are_no_house(self):
        for text in ("2 0", "1 2", "1 2 3", "1 2 0 4", "1 10", "60 0", "100 0", "1 0 99"):
            self.refused(text)
        self.refused("60" + " 0" * 59)
        self.refused("61" + " 0" * 59)
        self.assertEqual(read("59" + " 0" * 59), (59,) + (0,) * 59)

    def test_houses_that_point_to_themselves(self):
        for text in ("0 0", "1 1", "0 1", "1 2 2", "1 2 0 3"):
            self.refused(text)

    def test_long_texts(self):
        for word in ("9" * 5000, "1" * 5000, "1" + "0" * 4999, "0" * 5000):
            self.refused(word)
            self.refused(word + " 0")
            self.refused("1 " + word)
            self.refused("1 2 0 " + word)
        for sign in ("0", "1", "9", " ", "~", "-", "\t", "\n", "a"):
            self.refused(sign * 6000)
        self.refused("1 " * 2999 + "0")
        self.refused("1 0 " * 1500)

    def test_every_short_text(self):
        right = {wordings(pointing): pointing for pointing in small_pointings()}
        read_ones = 0
        for many in range(8):
            for signs in product(" 012", repeat=many):
                text = "".join(signs)
                if text in right:
                    self.assertEqual(read(text), right[text])
                    read_ones += 1
                else:
                    self.refused(text)
        # With at most seven signs and no figure above 2 these remain.
        known = [text for text in right if len(text) <= 7 and "3" not in text]
        self.assertEqual(read_ones, len(known))

    def test_no_other_error_comes_out(self):
        for signs in product(["1", "0", "9" * 4301, " ", "\n", "+", "_"], repeat=4):
            text = "".join(signs)
            try:
                told = read(text)
            except NoText as refusal:
                self.assertEqual(refusal.text, text)
            else:
                self.assertTrue(is_pointing(told))
                self.assertEqual(shown(told), text)


if __name__ == "__main__":
    unittest.main()
