"""The hue of a house, told by the names along its road alone."""

from ringhue.three import next_label, rounds


def gone_round(m, row):
    """Go one round along a row of numbers, each given by its labels so far; the last one drops out."""
    return [own + [next_label(m, own, behind[-1])] for own, behind in zip(row, row[1:])]


def hue_of(window, m):
    """Tell the hue of a window for m: that of the house at whose name it begins."""
    row = [[number] for number in window]
    for _ in range(rounds(m)):
        row = gone_round(m, row)
    return row[0][-1]
