"""Things that several tests hand in."""

from itertools import product

SIXTY_FIGURES = int("9" * 60)

RING = (1, 2, 3, 4, 0)
# Houses 0, 1, 2 stand in a ring, 3 and 4 hang on it one behind the other, 5 beside them.
TREES = (1, 2, 0, 0, 3, 1)
TWO_RINGS = (1, 0, 3, 4, 2, 0, 2)
STAR = (1,) + (0,) * 59
LONG_RING = tuple((house + 1) % 60 for house in range(60))
LONG_PATH = (1,) + tuple(range(59))

POINTINGS = (
    (1, 0),
    (1, 0, 0),
    (1, 2, 0, 0),
    RING,
    TREES,
    TWO_RINGS,
    STAR,
    LONG_RING,
    LONG_PATH,
)


def nested(depth, kind):
    """A tuple or list with as many within one another."""
    thing = kind()
    for _ in range(depth - 1):
        thing = kind([thing])
    return thing


def small_pointings():
    """Every pointing of two, three and four houses, worked out without the program."""
    found = []
    for many in (2, 3, 4):
        for goals in product(range(many), repeat=many):
            if all(goals[house] != house for house in range(many)):
                found.append(goals)
    return found
