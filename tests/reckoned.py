"""What the program is held against: the same promises, reckoned in another way."""

from functools import lru_cache
from itertools import product


def names_below(many, m):
    """So many unlike numbers below m, where m is 10 ** 9 or more and no multiple of the prime."""
    return tuple((house + 1) * 999999937 ** 2 % m for house in range(many))


def bits(number, places):
    """The bits of a number as a text, place 0 first."""
    return "".join(reversed(format(number, f"0{places}b")))


def stepped(label, goal_label):
    mine, its = bits(label, 70), bits(goal_label, 70)
    place = 0
    while mine[place] == its[place]:
        place += 1
    return 2 * place + int(mine[place])


def step(pointing, labels):
    return tuple(stepped(labels[house], labels[pointing[house]]) for house in range(len(pointing)))


def taking(pointing, labels, hue):
    """The labels behind each of the two rounds that take a hue away."""
    first = tuple(labels[pointing[house]] for house in range(len(pointing)))
    second = []
    for house in range(len(pointing)):
        if first[house] != hue:
            second.append(first[house])
            continue
        left = [0, 1, 2]
        for barred in (labels[house], first[pointing[house]]):
            if barred in left:
                left.remove(barred)
        second.append(left[0])
    return [first, tuple(second)]


def halvings(m):
    told = [m]
    while told[-1] > 6:
        last = told[-1] - 1
        many = 0
        while last > 0:
            last //= 2
            many += 1
        told.append(2 * many)
    return told


def all_labels(pointing, names, m):
    told = [names]
    for _ in range(len(halvings(m)) - 1):
        told.append(step(pointing, told[-1]))
    for hue in (5, 4, 3):
        told += taking(pointing, told[-1], hue)
    return told


def clashing(pointing, labels):
    return [house for house in range(len(pointing)) if labels[house] == labels[pointing[house]]]


def window_hue(window, m):
    """The hue of a window, from its end back: each label asks for the two or three it needs."""
    steps = len(halvings(m)) - 1

    @lru_cache(maxsize=None)
    def label(behind, at):
        if behind == 0:
            return window[at]
        mine, its = label(behind - 1, at), label(behind - 1, at + 1)
        if behind <= steps:
            return stepped(mine, its)
        turn = behind - steps
        if turn in (1, 3, 5):
            return its
        if mine != {2: 5, 4: 4, 6: 3}[turn]:
            return mine
        return min({0, 1, 2} - {its, label(behind - 2, at)})

    return label(steps + 6, 0)


def rising(m, many):
    """The rising tuples of so many unlike numbers below m, a rising list."""
    return [row for row in product(range(m), repeat=many)
            if all(one < behind for one, behind in zip(row, row[1:]))]


def stands(m, t):
    return rising(m, t + 1)


def overlaps(m, t):
    """Each two places in a table whose stands make one rising tuple of one number more."""
    places = stands(m, t)
    return [(one, other) for one, first in enumerate(places) for other, second in enumerate(places)
            if first[1:] == second[:-1] and first[0] < second[-1]]


def lowered(m, t, table):
    longer_ones = list(zip(stands(m, t), table))
    row = []
    for stand in stands(m, t - 1):
        row.append(tuple(sorted({hue for longer, hue in longer_ones if longer[:t] == stand})))
    sets = []
    for one in row:
        if one not in sets:
            sets.append(one)
    return [sets.index(one) for one in row], sets


def ties(pointing):
    """Each two houses that are tied, as a frozenset, whichever way they point."""
    return {frozenset((house, pointing[house])) for house in range(len(pointing))}


def is_apart(pointing, houses):
    """Whether unlike houses are a full apart set, as the words say it."""
    for tie in ties(pointing):
        if tie <= set(houses):
            return False
    covered = set(houses)
    for tie in ties(pointing):
        if tie & set(houses):
            covered |= tie
    return len(covered) == len(pointing)


def apart(pointing, labels):
    """All houses of one hue at once, hue by hue."""
    found = set()
    for hue in (0, 1, 2):
        barred = {house for tie in ties(pointing) if tie & found for house in tie}
        coming = {house for house, label in enumerate(labels) if label == hue and house not in barred}
        found |= coming
    return sorted(found)


def is_paired(pointing, pairs):
    """Whether tuples are full pairs, as the words say it."""
    if list(pairs) != sorted(set(pairs)):
        return False
    if any(pointing[house] != goal for house, goal in pairs):
        return False
    houses = [house for pair in pairs for house in pair]
    if any(houses.count(house) > 1 for house in houses):
        return False
    return all(tie & set(houses) for tie in ties(pointing))


def paired(pointing, labels):
    """All houses of one hue ask at once, hue by hue."""
    found = {}
    for hue in (0, 1, 2):
        taken = set(found) | set(found.values())
        asking = {}
        for house in range(len(pointing)):
            goal = pointing[house]
            if labels[house] == hue and house not in taken and goal not in taken:
                asking.setdefault(goal, []).append(house)
        for goal, houses in asking.items():
            found[min(houses)] = goal
    return sorted(found.items())
