"""Hues taken away, two rounds each, till three are left."""

from ringhue.halvings import halvings, shortenings
from ringhue.steps import check_proper

LEFT_HUES = (0, 1, 2)
# What shortened labels have beside the hues that are left, in the turn in which it goes.
GONE_HUES = (5, 4, 3)
ROUNDS_EACH = 2


def taken_over(pointing, labels):
    """The first round: each house takes the label of its next over."""
    return tuple([labels[goal] for goal in pointing])


def least_left(ahead, goal_label):
    """Tell the least hue that is neither a house's own one ahead nor its next's now."""
    return min([hue for hue in LEFT_HUES if hue not in (ahead, goal_label)])


def given_up(pointing, ahead, labels, hue):
    """The second round: who has the hue takes another; ahead are the labels before the first."""
    told = list(labels)
    for house, goal in enumerate(pointing):
        if labels[house] == hue:
            told[house] = least_left(ahead[house], labels[goal])
    return tuple(told)


def both_rounds(pointing, labels, hue):
    """Tell the labels behind each of the two rounds; NotProper where they are not proper."""
    check_proper(pointing, labels)
    first = taken_over(pointing, labels)
    return [first, given_up(pointing, labels, first, hue)]


def taken_away(pointing, labels, hue):
    """Take a hue away from proper labels; NotProper where they are not."""
    return both_rounds(pointing, labels, hue)[-1]


def all_labels(pointing, names, m):
    """Tell the labels round by round, the names for m first and the hues last."""
    told = shortenings(pointing, names, m)
    for hue in GONE_HUES:
        told.extend(both_rounds(pointing, told[-1], hue))
    return told


def hues(pointing, names, m):
    """Tell the hues of a pointing and names for m."""
    return all_labels(pointing, names, m)[-1]


def rounds(m):
    """Tell how many rounds names for m need: the steps and two for each hue that goes."""
    return len(halvings(m)) - 1 + ROUNDS_EACH * len(GONE_HUES)
