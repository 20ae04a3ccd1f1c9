"""The desk: it is told rows, and answers each with a text."""

from ringhue.apart import apart
from ringhue.errors import NoRow
from ringhue.houses import check_house, road
from ringhue.late import Hands
from ringhue.pairs import paired
from ringhue.texts import numbers_of, read, shown, written
from ringhue.three import hues, rounds

FIRST_POINTING = (1, 0)
# The most figures of a house or a number of rounds, and of a name or what names are below.
FEW_FIGURES = 9
MANY_FIGURES = 19
LONGEST_ROAD = 100
LEAST_BOUND = 2
GREATEST_BOUND = 10 ** 18
OK = "ok"
NONE = "none"


def are_names(numbers, many, m):
    """Tell whether numbers are names for m, one for each of so many houses."""
    if len(numbers) != many or len(set(numbers)) != many:
        return False
    return LEAST_BOUND <= m <= GREATEST_BOUND and max(numbers) < m


def written_pairs(pairs):
    """Write pairs, each as a house and its next."""
    return " ".join([f"{house}:{goal}" for house, goal in pairs])


class Desk:
    """A pointing and, once there are names for m, late hands and hues."""

    def __init__(self):
        self.pointing = FIRST_POINTING
        self.m = None
        self.hands = None
        self.hues = None

    def say(self, row):
        """Answer a row; NoRow, NoText, NoHouse or NotReady where it is refused."""
        word, *given = row.split(" ")
        told = self.answer(word, given)
        if told is None:
            raise NoRow(row)
        return told

    def answer(self, word, given):
        """Answer a word and those given behind it; None where they are no row of the desk."""
        if word == "pointing":
            return self.take_pointing(given)
        if word == "names":
            return self.take_names(given)
        numbers = numbers_of(given, FEW_FIGURES)
        if numbers is None:
            return None
        asked = [word, *numbers]
        told = self.answer_of_houses(asked)
        if told is None and self.hands is not None:
            told = self.answer_of_names(asked)
        return told

    def take_pointing(self, words):
        """Take the pointing that words write, NoText where they write none; None without words."""
        if not words:
            return None
        # Blanks too many make words without signs; put together again, they are no pointing.
        self.pointing = read(" ".join(words))
        self.m = None
        self.hands = None
        self.hues = None
        return OK

    def take_names(self, words):
        """Take m and the names for it that words write; None where they write none."""
        numbers = numbers_of(words, MANY_FIGURES)
        if not numbers:
            return None
        m, *rest = numbers
        names = tuple(rest)
        if not are_names(names, len(self.pointing), m):
            return None
        self.m = m
        self.hands = Hands(self.pointing, names, m)
        self.hues = hues(self.pointing, names, m)
        return OK

    def answer_of_houses(self, asked):
        """Answer a word and numbers that need no names; None where they are no such row."""
        match asked:
            case ["show"]:
                return shown(self.pointing)
            case ["road", house, k] if k <= LONGEST_ROAD:
                check_house(self.pointing, house)
                return written(road(self.pointing, house, k))
            case _:
                return None

    def answer_of_names(self, asked):
        """Answer a word and numbers that need names; None where they are no such row."""
        match asked:
            case ["go", house]:
                return str(self.hands.go(house))
            case ["done"]:
                return written(self.hands.done())
            case ["ready"]:
                return written(self.hands.ready()) or NONE
            case ["label", house, k]:
                label = self.hands.label(house, k)
                return NONE if label is None else str(label)
            case ["rounds"]:
                return str(rounds(self.m))
            case ["hues"]:
                return written(self.hues)
            case ["apart"]:
                return written(apart(self.pointing, self.hues))
            case ["pairs"]:
                return written_pairs(paired(self.pointing, self.hues))
            case _:
                return None
