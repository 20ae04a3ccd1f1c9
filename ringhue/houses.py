"""Houses that point each to another one, and the roads along them."""

from ringhue.errors import NoHouse

LEAST_HOUSES = 2
MOST_HOUSES = 60


def is_whole(thing):
    """Tell of anything whether it is a whole number."""
    # Python counts True and False among the ints, the document does not.
    return isinstance(thing, int) and not isinstance(thing, bool)


def is_house(thing, many):
    """Tell of anything whether it is one of so many houses."""
    return is_whole(thing) and 0 <= thing < many


def check_house(pointing, number):
    """Refuse a whole number with NoHouse where it is no house of a pointing."""
    if not is_house(number, len(pointing)):
        raise NoHouse(number)


def is_pointing(thing):
    """Tell of anything whether it is a pointing."""
    if not isinstance(thing, tuple):
        return False
    many = len(thing)
    if not LEAST_HOUSES <= many <= MOST_HOUSES:
        return False
    return all([is_house(goal, many) and goal != house for house, goal in enumerate(thing)])


def road(pointing, house, k):
    """Tell the road of a house for k: k + 1 houses, itself first."""
    told = [house]
    for _ in range(k):
        told.append(pointing[told[-1]])
    return told


def tied_ones(pointing):
    """Tell for each house the ones that it is tied to, its next first."""
    told = [[goal] for goal in pointing]
    for house, goal in enumerate(pointing):
        told[goal].append(house)
    return told
