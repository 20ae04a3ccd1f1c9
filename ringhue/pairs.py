"""Pairings: pairs of a house and its next, so many that of each two tied ones one is in a pair."""

from ringhue.houses import is_house
from ringhue.steps import by_hue, check_proper


def paired(pointing, labels):
    """Tell the pairs of proper labels; NotProper where they are not."""
    check_proper(pointing, labels)
    told = []
    taken = set()
    # None that is asked has the hue of those that ask, so the houses of one hue may
    # ask one by one: of those that ask one house the least asks first.
    for house in by_hue(labels):
        goal = pointing[house]
        if house not in taken and goal not in taken:
            told.append((house, goal))
            taken.add(house)
            taken.add(goal)
    return sorted(told)


def is_pair(pointing, thing):
    """Tell of anything whether it is a tuple of a house and its next."""
    if not isinstance(thing, tuple) or len(thing) != 2:
        return False
    house, goal = thing
    many = len(pointing)
    return is_house(house, many) and is_house(goal, many) and pointing[house] == goal


def are_pairs(pointing, thing):
    """Tell of anything whether it is a rising list of pairs, no house in two."""
    if not isinstance(thing, list) or not all([is_pair(pointing, pair) for pair in thing]):
        return False
    within = [house for pair in thing for house in pair]
    return thing == sorted(thing) and len(within) == len(set(within))


def is_paired(pointing, thing):
    """Tell of anything whether it is full pairs of a pointing."""
    if not are_pairs(pointing, thing):
        return False
    within = [house for pair in thing for house in pair]
    return all([house in within or goal in within for house, goal in enumerate(pointing)])
