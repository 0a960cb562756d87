"""Trails: rows on their way, step by step, ahead or from behind.

A step is (i, j, k). With k above 0 holder i gives holder j so many times; with k
below 0 so many such deeds are undone, j giving half of its amount back to i each
time. (i, j, -k) undoes (i, j, k): so a trail may be walked from its last row on,
and be turned round.
"""

from matchgift.rings import ring
from matchgift.runs import ran


class Trail:
    """The amounts of a row on its way, with the steps that led there."""

    def __init__(self, row):
        self.amounts = list(row)
        self.steps = []

    def go(self, i, j, k):
        """One step."""
        before = self.amounts[j]
        self.amounts[j] = before << k if k > 0 else before >> -k
        self.amounts[i] += before - self.amounts[j]
        self.steps.append((i, j, k))

    def fall(self, place, by, to):
        """The amount at a place falls until it is at most the amount `by` has, who has in the end what it had.

        All that it loses goes over to another one. Where the amount that falls is odd
        and the other one even, it comes to its rest by that one.
        """
        while self.amounts[place] > self.amounts[by]:
            many = most_gifts(self.amounts[place], self.amounts[by])
            self.go(place, by, many)
            self.go(to, by, -many)


def most_gifts(amount, other):
    """How often the holder of the amount can give the other one and still have something."""
    return ((amount - 1) // other + 1).bit_length() - 1


def odd_places(amounts):
    """The places of odd amounts."""
    return [place for place, amount in enumerate(amounts) if amount & 1]


def even_places(amounts):
    """The places of even amounts, 0 left out."""
    return [place for place, amount in enumerate(amounts) if amount > 0 and amount & 1 == 0]


def turned_round(steps):
    """The steps that undo these, from the last on."""
    return [(i, j, -k) for i, j, k in reversed(steps)]


def runs_of_steps(row, steps):
    """The steps as a plan; deeds are undone by going on to the end of the ring of the two."""
    runs = []
    for i, j, k in steps:
        many = k if k > 0 else k % ring(row, i, j)
        row = ran(row, (i, j, many))
        runs.append((i, j, many))
    return tuple(runs)
