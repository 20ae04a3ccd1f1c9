"""Apart sets: no two houses in one are tied, and each other house is tied to one in it."""

from ringhue.houses import is_house, tied_ones
from ringhue.steps import by_hue, check_proper


def apart(pointing, labels):
    """Tell the apart set of proper labels; NotProper where they are not."""
    check_proper(pointing, labels)
    tied = tied_ones(pointing)
    told = []
    # Houses of one hue are not tied, so it is one which of them comes first.
    for house in by_hue(labels):
        if not any([other in told for other in tied[house]]):
            told.append(house)
    return sorted(told)


def are_houses(thing, many):
    """Tell of anything whether it is a rising list of unlike houses of so many."""
    if not isinstance(thing, list) or not all([is_house(house, many) for house in thing]):
        return False
    return thing == sorted(set(thing))


def is_apart(pointing, thing):
    """Tell of anything whether it is a full apart set of a pointing."""
    if not are_houses(thing, len(pointing)):
        return False
    tied = tied_ones(pointing)
    # Each house is in it, or a tied one is, but never both.
    return all([
        (house in thing) != any([other in thing for other in tied[house]])
        for house in range(len(pointing))
    ])
