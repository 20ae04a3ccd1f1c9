"""Pointings written as texts, and read from them."""

from ringhue.errors import NoText
from ringhue.houses import is_pointing

# Of sixty houses none has more figures. Longer words are never made numbers,
# since Python itself refuses those of some thousand figures.
MOST_FIGURES = 2


def written(numbers):
    """Write numbers, one blank between."""
    return " ".join([str(number) for number in numbers])


def shown(pointing):
    """Write a pointing: its numbers, one blank between."""
    return written(pointing)


def is_number(word):
    """Tell whether a word is figures, with no 0 ahead but in 0 itself."""
    # Without isascii, isdigit would take figures of other scripts, too.
    if not word.isascii() or not word.isdigit():
        return False
    return word == "0" or not word.startswith("0")


def numbers_of(words, figures):
    """Tell the numbers of words; None where one is no number or has more than so many figures."""
    if not all([is_number(word) and len(word) <= figures for word in words]):
        return None
    return [int(word) for word in words]


def read(text):
    """Read the pointing that a text writes; NoText where it writes none."""
    numbers = numbers_of(text.split(" "), MOST_FIGURES)
    if numbers is None or not is_pointing(tuple(numbers)):
        raise NoText(text)
    return tuple(numbers)
