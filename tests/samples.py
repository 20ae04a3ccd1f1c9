"""Things that several tests hand in."""

from itertools import product

import reckoned

SIXTY_FIGURES = int("9" * 60)
# The greatest label, and the greatest number that names are below.
GREATEST = 10 ** 18

RING = (1, 2, 3, 4, 0)
# Houses 0, 1, 2 stand in a ring, 3 and 4 hang on it one behind the other, 5 beside them.
TREES = (1, 2, 0, 0, 3, 1)
TWO_RINGS = (1, 0, 3, 4, 2, 0, 2)
STAR = (1,) + (0,) * 59
LONG_RING = tuple((house + 1) % 60 for house in range(60))
LONG_PATH = (1,) + tuple(range(59))

POINTINGS = (
    (1, 0),
    (1, 0, 0),
    (1, 2, 0, 0),
    RING,
    TREES,
    TWO_RINGS,
    STAR,
    LONG_RING,
    LONG_PATH,
)


def nested(depth, kind):
    """A tuple or list with as many within one another."""
    thing = kind()
    for _ in range(depth - 1):
        thing = kind([thing])
    return thing


def small_pointings():
    """Every pointing of two, three and four houses, worked out without the program."""
    found = []
    for many in (2, 3, 4):
        for goals in product(range(many), repeat=many):
            if all(goals[house] != house for house in range(many)):
                found.append(goals)
    return found


def names_for(many):
    """Pairs of a number m and names for it of so many houses."""
    straight = tuple(range(many))
    found = []
    for m in (many, 64, 129, 257, 65537, 2 ** 59, GREATEST):
        found.append((m, straight))
        found.append((m, tuple(m - 1 - name for name in straight)))
    # They are alike in all places but the highest ones.
    found.append((GREATEST, tuple(name * 2 ** 53 for name in straight)))
    for m in (10 ** 9, GREATEST - 1, GREATEST):
        found.append((m, reckoned.names_below(many, m)))
    return found


def proper_labels(pointing):
    """Some proper labels of a pointing, up to the greatest."""
    many = len(pointing)
    found = [
        tuple(range(many)),
        tuple(GREATEST - house for house in range(many)),
        tuple(house * (GREATEST // (many - 1)) for house in range(many)),
        reckoned.names_below(many, GREATEST),
    ]
    # Labels below six that come again.
    for _ in range(5):
        found.append(reckoned.step(pointing, found[-1]))
    return found
