"""Meetings: what several rows can all come to, and what comes again of itself."""

from matchgift.clauses import comes
from matchgift.counts import refuse_too_few
from matchgift.measures import odd_ones, unit
from matchgift.rows import holders


def common_holders(rows):
    """The places of those who have something in each of the rows, of as many places."""
    return [place for place in holders(rows[0]) if all([row[place] > 0 for row in rows])]


def gathered(rows, places):
    """A row that comes of each of the rows if any does, of those in which the common holders have something."""
    amounts = [0 for amount in rows[0]]
    amounts[places[0]] = sum(rows[0])
    if len(places) > 1:
        # Twice the greatest unit beside all else: of like sums and measures each
        # unit parts it, and there is one odd amount at the most.
        amounts[places[1]] = 2 * max([unit(row) for row in rows])
        amounts[places[0]] -= amounts[places[1]]
    return tuple(amounts)


def meeting(rows):
    """A row that comes of each of the rows, None where there is none.

    TooFew where in one of them fewer than three holders have something.
    """
    for row in rows:
        refuse_too_few(row)
    if any([len(row) != len(rows[0]) or sum(row) != sum(rows[0]) for row in rows]):
        return None
    places = common_holders(rows)
    if not places:
        return None
    behind = gathered(rows, places)
    return behind if all([comes(row, behind) for row in rows]) else None


def goes_round(row):
    """Whether the row comes again of itself by one deed or more."""
    # Two holders, one of them an odd one and the other one not, take back all
    # they do; where all are odd ones somebody is doubled by the first deed, which
    # never is undone.
    return odd_ones(row) < len(holders(row))
