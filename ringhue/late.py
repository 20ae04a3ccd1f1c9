"""Late hands: each house does the rounds by itself, in whatever order they go."""

from ringhue.errors import NotReady
from ringhue.houses import check_house
from ringhue.three import next_label, rounds


class Hands:
    """The houses of a pointing with names for m, and the labels that each has had so far."""

    def __init__(self, pointing, names, m):
        self.pointing = pointing
        self.m = m
        self.labels = [[name] for name in names]

    def can_go(self, house):
        """Tell whether a house has rounds left and its next has done as many at least."""
        many = len(self.labels[house])
        return many <= rounds(self.m) and len(self.labels[self.pointing[house]]) >= many

    def go(self, house):
        """Let a house do a round and tell its new label; NoHouse, NotReady where it can't go."""
        check_house(self.pointing, house)
        if not self.can_go(house):
            raise NotReady(house)
        own = self.labels[house]
        behind = self.labels[self.pointing[house]]
        own.append(next_label(self.m, own, behind[len(own) - 1]))
        return own[-1]

    def done(self):
        """Tell how many rounds each house has done."""
        return [len(own) - 1 for own in self.labels]

    def ready(self):
        """Tell the houses that can go, as a rising list."""
        return [house for house in range(len(self.pointing)) if self.can_go(house)]

    def label(self, house, k):
        """Tell a house's label behind k rounds, None where it hasn't done so many; NoHouse."""
        check_house(self.pointing, house)
        own = self.labels[house]
        return own[k] if 0 <= k < len(own) else None
