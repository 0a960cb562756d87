"""Rows of whole amounts, and the one deed that changes them."""

from matchgift.errors import NoDeed

MOST_PLACES = 12
ABOVE_THIRTY_FIGURES = 10 ** 30


def is_whole(thing):
    """Whether it is a whole number, of anything."""
    # A truth is an int to Python, but no whole number here.
    return isinstance(thing, int) and not isinstance(thing, bool)


def is_row(thing):
    """Whether it is a row, of anything."""
    if not isinstance(thing, tuple) or not 1 <= len(thing) <= MOST_PLACES:
        return False
    if not all([is_whole(amount) and amount >= 0 for amount in thing]):
        return False
    return 0 < sum(thing) < ABOVE_THIRTY_FIGURES


def holders(row):
    """The rising tuple of the places of those who have something."""
    return tuple([place for place, amount in enumerate(row) if amount > 0])


def has_something(row, place):
    """Whether it is the place of a holder who has something, of anything as place."""
    # Python would count a place below 0 from the end, so both ends are asked.
    return is_whole(place) and 0 <= place < len(row) and row[place] > 0


def are_two_holders(row, i, j):
    """Whether they are unlike places of holders who have something, of anything as i and j."""
    return has_something(row, i) and has_something(row, j) and i != j


def may_give(row, i, j):
    """Whether the deed (i, j) may be done in the row, of anything as i and j."""
    return are_two_holders(row, i, j) and row[i] >= row[j]


def after_deed(row, i, j):
    """The row behind the deed (i, j); NoDeed where it may not be done, of anything as i and j."""
    if not may_give(row, i, j):
        raise NoDeed("this deed may not be done in this row")
    amounts = list(row)
    amounts[i] = row[i] - row[j]
    amounts[j] = row[j] + row[j]
    return tuple(amounts)


def deeds(row):
    """The rising tuple of all deeds that may be done in the row."""
    places = holders(row)
    return tuple([(i, j) for i in places for j in places if may_give(row, i, j)])
