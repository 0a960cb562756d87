"""Fewest deeds, for rows so small that all that comes of them can be gone through."""

from matchgift.errors import TooGreat
from matchgift.rows import after_deed, deeds

MOST_PLACES_HERE = 4
MOST_SUM_HERE = 40


def refuse_great(row):
    """TooGreat where the row has more than four places or a sum above 40."""
    if len(row) > MOST_PLACES_HERE or sum(row) > MOST_SUM_HERE:
        raise TooGreat("the row is greater than any gone through here")


def gone_on(came, row):
    """The rows that come of the row by one deed and hadn't come; they are kept with the row and the deed."""
    new = []
    for i, j in deeds(row):
        behind = after_deed(row, i, j)
        if behind not in came:
            came[behind] = (row, (i, j))
            new.append(behind)
    return new


def came_until(row, other):
    """Each row that comes of the row, with the row ahead of it and the deed, until the other one has come."""
    came = {row: None}
    waiting = [row]
    # Rows wait in the order of the least of their shortest ways, and deeds are
    # tried rising: so each row comes first by the least of its own.
    while waiting and other not in came:
        behind = []
        for now in waiting:
            behind.extend(gone_on(came, now))
        waiting = behind
    return came


def first_way(row, other):
    """The least of the shortest tuples of deeds by which the other row comes, None where it doesn't.

    TooGreat where one of both has more than four places or a sum above 40.
    """
    refuse_great(row)
    refuse_great(other)
    came = came_until(row, other)
    if other not in came:
        return None
    way = []
    now = other
    while now != row:
        now, deed = came[now]
        way.append(deed)
    return tuple(reversed(way))


def deeds_to(row, other):
    """With how few deeds the other row comes, None where it doesn't; TooGreat likewise."""
    way = first_way(row, other)
    return None if way is None else len(way)
