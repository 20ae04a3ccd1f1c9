"""What the program is held against: the same promises, reckoned in another way."""


def names_below(many, m):
    """So many unlike numbers below m, where m is 10 ** 9 or more and no multiple of the prime."""
    return tuple((house + 1) * 999999937 ** 2 % m for house in range(many))


def bits(number, places):
    """The bits of a number as a text, place 0 first."""
    return "".join(reversed(format(number, f"0{places}b")))


def stepped(label, goal_label):
    mine, its = bits(label, 70), bits(goal_label, 70)
    place = 0
    while mine[place] == its[place]:
        place += 1
    return 2 * place + int(mine[place])


def step(pointing, labels):
    return tuple(stepped(labels[house], labels[pointing[house]]) for house in range(len(pointing)))


def taking(pointing, labels, hue):
    """The labels behind each of the two rounds that take a hue away."""
    first = tuple(labels[pointing[house]] for house in range(len(pointing)))
    second = []
    for house in range(len(pointing)):
        if first[house] != hue:
            second.append(first[house])
            continue
        left = [0, 1, 2]
        for barred in (labels[house], first[pointing[house]]):
            if barred in left:
                left.remove(barred)
        second.append(left[0])
    return [first, tuple(second)]


def halvings(m):
    told = [m]
    while told[-1] > 6:
        last = told[-1] - 1
        many = 0
        while last > 0:
            last //= 2
            many += 1
        told.append(2 * many)
    return told


def all_labels(pointing, names, m):
    told = [names]
    for _ in range(len(halvings(m)) - 1):
        told.append(step(pointing, told[-1]))
    for hue in (5, 4, 3):
        told += taking(pointing, told[-1], hue)
    return told


def clashing(pointing, labels):
    return [house for house in range(len(pointing)) if labels[house] == labels[pointing[house]]]
