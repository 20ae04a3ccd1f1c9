import unittest

from ringhue import errors
from ringhue.errors import HueError, NoHouse, NoRow, NoText, NotProper, NotReady
from samples import SIXTY_FIGURES

OF_HOUSES = (NotProper, NoHouse, NotReady)
OF_TEXTS = (NoText, NoRow)
ALL = OF_HOUSES + OF_TEXTS
HOUSES = (0, 1, 59, 60, -1, SIXTY_FIGURES, -SIXTY_FIGURES)
GREAT_HOUSES = tuple(
    sign * (10 ** figures + more)
    for figures in (4299, 4300, 5000, 20000)
    for more in (-1, 0, 1)
    for sign in (1, -1)
)
TEXTS = ("", " ", "1 2", "\t\n", "9" * 5000, "~" * 6000)


class Kinds(unittest.TestCase):
    def test_all_are_hue_errors_and_value_errors(self):
        self.assertTrue(issubclass(HueError, ValueError))
        for kind in ALL:
            with self.subTest(kind=kind.__name__):
                self.assertTrue(issubclass(kind, HueError))

    def test_none_is_under_another_one(self):
        for kind in ALL:
            for other in ALL:
                if kind is not other:
                    with self.subTest(kind=kind.__name__, other=other.__name__):
                        self.assertFalse(issubclass(kind, other))

    def test_all_are_defined_in_their_file(self):
        for kind in (HueError,) + ALL:
            self.assertEqual(kind.__module__, "ringhue.errors")
            self.assertIs(getattr(errors, kind.__name__), kind)

    def test_each_is_caught_as_its_kind_alone(self):
        for kind in ALL:
            for caught in (kind, HueError, ValueError):
                with self.subTest(kind=kind.__name__, caught=caught.__name__):
                    with self.assertRaises(caught):
                        raise kind("3")
            for other in ALL:
                if other is not kind:
                    with self.assertRaises(kind):
                        try:
                            raise kind("3")
                        except other:
                            self.fail("caught as another one")

    def test_any_refusal_itself_can_be_raised(self):
        with self.assertRaises(HueError):
            raise HueError("refused")


class Fields(unittest.TestCase):
    def test_house_is_what_it_was_made_of(self):
        for kind in OF_HOUSES:
            for house in HOUSES:
                with self.subTest(kind=kind.__name__, house=house):
                    refusal = kind(house)
                    self.assertEqual(refusal.house, house)
                    self.assertIs(type(refusal.house), int)
                    self.assertFalse(hasattr(refusal, "text"))
                    self.assertIsInstance(str(refusal), str)

    def test_houses_of_any_size(self):
        # Python itself writes no number of more than 4300 figures.
        for kind in OF_HOUSES:
            for at, house in enumerate(GREAT_HOUSES):
                with self.subTest(kind=kind.__name__, at=at):
                    refusal = kind(house)
                    self.assertIs(type(refusal), kind)
                    self.assertIsInstance(refusal, HueError)
                    self.assertIsInstance(refusal, ValueError)
                    self.assertIs(type(refusal.house), int)
                    self.assertTrue(refusal.house == house)
                    self.assertIsInstance(str(refusal), str)
                    self.assertIsInstance(repr(refusal), str)
                    with self.assertRaises(kind) as caught:
                        raise kind(house)
                    self.assertTrue(caught.exception.house == house)

    def test_text_is_what_it_was_made_of(self):
        for kind in OF_TEXTS:
            for text in TEXTS:
                with self.subTest(kind=kind.__name__, signs=len(text)):
                    refusal = kind(text)
                    self.assertEqual(refusal.text, text)
                    self.assertFalse(hasattr(refusal, "house"))
                    self.assertIsInstance(str(refusal), str)

    def test_fields_are_set_on_the_object_itself(self):
        for kind in OF_HOUSES:
            self.assertFalse(hasattr(kind, "house"))
        for kind in OF_TEXTS:
            self.assertFalse(hasattr(kind, "text"))

    def test_a_second_one_changes_nothing_of_the_first(self):
        for kind in OF_HOUSES:
            for other in OF_HOUSES:
                first = kind(3)
                said = str(first)
                second = other(7)
                self.assertEqual((first.house, second.house), (3, 7))
                self.assertEqual(str(first), said)
        for kind in OF_TEXTS:
            for other in OF_TEXTS:
                first = kind("one")
                said = str(first)
                second = other("two")
                self.assertEqual((first.text, second.text), ("one", "two"))
                self.assertEqual(str(first), said)


if __name__ == "__main__":
    unittest.main()
