"""Pointings written as texts, and read from them."""

from ringhue.errors import NoText
from ringhue.houses import is_pointing

# Of sixty houses none has more figures. Longer words are never made numbers,
# since Python itself refuses those of some thousand figures.
MOST_FIGURES = 2


def shown(pointing):
    """Write a pointing: its numbers, one blank between."""
    return " ".join([str(goal) for goal in pointing])


def is_number(word):
    """Tell whether a word is figures, with no 0 ahead but in 0 itself."""
    # Without isascii, isdigit would take figures of other scripts, too.
    if not word.isascii() or not word.isdigit():
        return False
    return word == "0" or not word.startswith("0")


def read(text):
    """Read the pointing that a text writes; NoText where it writes none."""
    words = text.split(" ")
    if not all([is_number(word) and len(word) <= MOST_FIGURES for word in words]):
        raise NoText(text)
    pointing = tuple([int(word) for word in words])
    if not is_pointing(pointing):
        raise NoText(text)
    return pointing
