"""Things that several tests hand in."""

import random
from itertools import product

import reckoned

SIXTY_FIGURES = int("9" * 60)
# The greatest label, and the greatest number that names are below.
GREATEST = 10 ** 18
# What is no whole number, though Python takes two of them for one.
NO_NUMBERS = (True, False, None, "", "0", "1", [], [0], (), (0,))

RING = (1, 2, 3, 4, 0)
# Houses 0, 1, 2 stand in a ring, 3 and 4 hang on it one behind the other, 5 beside them.
TREES = (1, 2, 0, 0, 3, 1)
TWO_RINGS = (1, 0, 3, 4, 2, 0, 2)
STAR = (1,) + (0,) * 59
LONG_RING = tuple((house + 1) % 60 for house in range(60))
LONG_PATH = (1,) + tuple(range(59))

POINTINGS = (
    (1, 0),
    (1, 0, 0),
    (1, 2, 0, 0),
    RING,
    TREES,
    TWO_RINGS,
    STAR,
    LONG_RING,
    LONG_PATH,
)


def nested(depth, kind):
    """A tuple or list with as many within one another."""
    thing = kind()
    for _ in range(depth - 1):
        thing = kind([thing])
    return thing


def small_pointings():
    """Every pointing of two, three and four houses, worked out without the program."""
    found = []
    for many in (2, 3, 4):
        for goals in product(range(many), repeat=many):
            if all(goals[house] != house for house in range(many)):
                found.append(goals)
    return found


def names_for(many):
    """Pairs of a number m and names for it of so many houses."""
    straight = tuple(range(many))
    found = []
    for m in (many, 64, 129, 257, 65537, 2 ** 59, GREATEST):
        found.append((m, straight))
        found.append((m, tuple(m - 1 - name for name in straight)))
    # They are alike in all places but the highest ones.
    found.append((GREATEST, tuple(name * 2 ** 53 for name in straight)))
    for m in (10 ** 9, GREATEST - 1, GREATEST):
        found.append((m, reckoned.names_below(many, m)))
    return found


def proper_labels(pointing):
    """Some proper labels of a pointing, up to the greatest."""
    many = len(pointing)
    found = [
        tuple(range(many)),
        tuple(GREATEST - house for house in range(many)),
        tuple(house * (GREATEST // (many - 1)) for house in range(many)),
        reckoned.names_below(many, GREATEST),
    ]
    # Labels below six that come again.
    for _ in range(5):
        found.append(reckoned.step(pointing, found[-1]))
    return found


def three_hues(pointing):
    """Some proper labels of 0, 1 and 2 of a pointing."""
    many = len(pointing)
    draw = random.Random(many)
    found = []
    for m, names in names_for(many)[-4:] + [(GREATEST, drawn_names(pointing, GREATEST, draw)) for _ in range(8)]:
        told = reckoned.all_labels(pointing, names, m)[-1]
        found.append(told)
        # Any of the six other ways to name three hues is right as well.
        found.append(tuple(2 - hue for hue in told))
        found.append(tuple((hue + 1) % 3 for hue in told))
    return found


def drawn_pointings(many):
    """So many pointings, drawn alike in each run."""
    draw = random.Random(15)
    found = []
    for at in range(many):
        houses = 2 + at * 58 // (many - 1)
        goals = [draw.randrange(houses - 1) for _ in range(houses)]
        found.append(tuple(goal + (goal >= house) for house, goal in enumerate(goals)))
    return found


def drawn_names(pointing, m, draw):
    """Unlike names below m for a pointing."""
    found = []
    while len(found) < len(pointing):
        name = draw.randrange(m)
        if name not in found:
            found.append(name)
    return tuple(found)


def right_tables(m, t):
    """Some right tables of m and t, t from 0 to 2."""
    places = reckoned.stands(m, t)
    found = [list(range(len(places)))]
    found.append([hue * 3 + 1 for hue in reversed(found[0])])
    # No two stands that overlap have the same first, middle or last number.
    for at in range(t + 1):
        found.append([stand[at] for stand in places])
    if t:
        found.append([few_hues(stand) for stand in places])
    return found + [[SIXTY_FIGURES - hue * 10 ** 50 for hue in table] for table in found]


def few_hues(stand):
    """A hue of a stand of two or three numbers below 16: from 0 to 3 of two, to 5 of three."""
    if len(stand) == 2:
        low, high = format(stand[0], "04b"), format(stand[1], "04b")
        return [one == other for one, other in zip(low, high)].index(False)
    return reckoned.stepped(few_hues(stand[:2]), few_hues(stand[1:]))
