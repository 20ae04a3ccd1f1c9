"""Tables lowered by one round, and how many names so many hues are enough for."""

from ringhue.stands import stands


def sets_behind(m, t, table):
    """Tell for each stand of one round fewer the hues of all that go on from it, in their order."""
    found = {stand: [] for stand in stands(m, t - 1)}
    for longer, hue in zip(stands(m, t), table):
        found[longer[:-1]].append(hue)
    return [tuple(sorted(set(behind))) for behind in found.values()]


def lowered(m, t, table):
    """Lower a right table of t rounds: tell one of t - 1 rounds, and the sets that its hues number."""
    told = []
    numbers = {}
    for behind in sets_behind(m, t, table):
        told.append(numbers.setdefault(behind, len(numbers)))
    return told, list(numbers)


def most_names(c, t):
    """Tell how many names c hues in t rounds are enough for at most."""
    told = c
    for _ in range(t):
        told = 1 << told
    return told


def one_round(m):
    """Tell the fewest hues for m names in one round, and a right table with them."""
    c = (m - 1).bit_length()
    # Each stand's hue is the highest place at which its numbers, written by twos, differ.
    # The greater one has 1 there, but 0 at the place of each stand that it begins.
    return c, [(low ^ high).bit_length() - 1 for low, high in stands(m, 1)]
