"""Stands of names, and the tables that give each stand a hue."""

from itertools import combinations

from ringhue.houses import is_whole


def rising(m, many):
    """Tell the rising tuples of so many unlike numbers from 0 below m, as a rising list."""
    return list(combinations(range(m), many))


def stands(m, t):
    """Tell the stands of t rounds for m, as a rising list."""
    return rising(m, t + 1)


def is_hue(thing):
    """Tell of anything whether it is a hue that a table may have."""
    return is_whole(thing) and thing >= 0


def is_table(m, t, thing):
    """Tell of anything whether it is a right table of m and t."""
    places = stands(m, t)
    if not isinstance(thing, list) or len(thing) != len(places):
        return False
    if not all([is_hue(hue) for hue in thing]):
        return False
    hue_at = dict(zip(places, thing))
    return all([hue_at[longer[:-1]] != hue_at[longer[1:]] for longer in rising(m, t + 2)])
