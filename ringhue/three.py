"""Hues taken away, two rounds each, till three are left."""

from ringhue.halvings import needed_steps, shortenings
from ringhue.steps import check_proper, stepped

LEFT_HUES = (0, 1, 2)
# What shortened labels have beside the hues that are left, in the turn in which it goes.
GONE_HUES = (5, 4, 3)
ROUNDS_EACH = 2


def taken_over(pointing, labels):
    """The first round: each house takes the label of its next over."""
    return tuple([labels[goal] for goal in pointing])


def given_up(ahead, label, goal_label, hue):
    """The second round of one house: its label then; ahead is that before the first round."""
    if label != hue:
        return label
    return min([left for left in LEFT_HUES if left not in (ahead, goal_label)])


def both_rounds(pointing, labels, hue):
    """Tell the labels behind each of the two rounds; NotProper where they are not proper."""
    check_proper(pointing, labels)
    first = taken_over(pointing, labels)
    second = [
        given_up(labels[house], first[house], first[goal], hue)
        for house, goal in enumerate(pointing)
    ]
    return [first, tuple(second)]


def taken_away(pointing, labels, hue):
    """Take a hue away from proper labels; NotProper where they are not."""
    return both_rounds(pointing, labels, hue)[-1]


def all_labels(pointing, names, m):
    """Tell the labels round by round, the names for m first and the hues last."""
    told = shortenings(pointing, names, m)
    for hue in GONE_HUES:
        told.extend(both_rounds(pointing, told[-1], hue))
    return told


def hues(pointing, names, m):
    """Tell the hues of a pointing and names for m."""
    return all_labels(pointing, names, m)[-1]


def rounds(m):
    """Tell how many rounds names for m need: the steps and two for each hue that goes."""
    return needed_steps(m) + ROUNDS_EACH * len(GONE_HUES)


def next_label(m, own, goal_label):
    """Tell the label of one house behind one round more.

    own are its labels so far, the name for m first; goal_label is its next's
    behind as many rounds.
    """
    done = len(own) - 1
    if done < needed_steps(m):
        return stepped(own[-1], goal_label)
    turn, second = divmod(done - needed_steps(m), ROUNDS_EACH)
    if second == 0:
        return goal_label
    return given_up(own[-2], own[-1], goal_label, GONE_HUES[turn])
