"""Labels of houses, and the step that makes proper ones of proper ones."""

from ringhue.errors import NotProper


def clashing(pointing, labels):
    """Tell which houses have the label of their next, the least first."""
    return [house for house, goal in enumerate(pointing) if labels[house] == labels[goal]]


def is_proper(pointing, labels):
    """Tell whether no house has the label of its next."""
    return not clashing(pointing, labels)


def check_proper(pointing, labels):
    """Refuse labels that are not proper with NotProper of the least house."""
    houses = clashing(pointing, labels)
    if houses:
        raise NotProper(houses[0])


def by_hue(labels):
    """Tell the houses hue by hue, the least hue first, those of one hue rising."""
    return sorted(range(len(labels)), key=lambda house: (labels[house], house))


def unlike_place(one, other):
    """Tell the least place at which two unlike numbers, written by twos, differ."""
    unlike = one ^ other
    # A number and its negative have only the least bit of both in common.
    return (unlike & -unlike).bit_length() - 1


def stepped(label, goal_label):
    """Tell the label of a house behind a step, from its own and its next's."""
    place = unlike_place(label, goal_label)
    return 2 * place + ((label >> place) & 1)


def step(pointing, labels):
    """Make new labels of proper ones; NotProper where they are not."""
    check_proper(pointing, labels)
    return tuple([stepped(labels[house], labels[goal]) for house, goal in enumerate(pointing)])
