"""How fast the steps shorten labels, and names that are shortened by them."""

from ringhue.steps import step

# Of labels below six a step makes labels below six again, so none goes further.
SHORT = 6


def halvings(m):
    """Tell the bounds of the labels: m, then one behind each step."""
    told = [m]
    while told[-1] > SHORT:
        told.append(2 * (told[-1] - 1).bit_length())
    return told


def needed_steps(m):
    """Tell how many steps names for m need."""
    return len(halvings(m)) - 1


def shortenings(pointing, names, m):
    """Tell the labels behind each step that names for m need, the names first."""
    told = [names]
    for _ in range(needed_steps(m)):
        told.append(step(pointing, told[-1]))
    return told


def shortened(pointing, names, m):
    """Tell the labels behind all the steps that names for m need."""
    return shortenings(pointing, names, m)[-1]
