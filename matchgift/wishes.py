"""Wishes: what some holders are to have, and whether it can be."""

from matchgift.clauses import comes
from matchgift.counts import refuse_too_few
from matchgift.measures import unit


def is_free(amount, wish):
    """Whether a holder may come to have any amount: who has nothing never does."""
    return wish is None and amount > 0


def filled(row, wishes):
    """A row that meets the wishes, and comes of the row if any such does; None where the sum can't be."""
    amounts = [0 if wish is None else wish for wish in wishes]
    left = sum(row) - sum(amounts)
    free = [place for place, wish in enumerate(wishes) if is_free(row[place], wish)]
    if left < 0 or left > 0 and not free:
        return None
    # Where two may have any amount, one of them having twice the unit leaves no
    # common part that is odd, an even amount beside the odd ones, and as few of
    # these as can be: no clause is broken then that isn't broken of all.
    if len(free) > 1 and left > 2 * unit(row):
        amounts[free.pop()] = 2 * unit(row)
        left -= 2 * unit(row)
    if free:
        amounts[free[0]] = left
    return tuple(amounts)


def wished(row, wishes):
    """A row that comes of the row and meets the wishes, None where there is none.

    TooFew where fewer than three holders have something.
    """
    refuse_too_few(row)
    behind = filled(row, wishes)
    if behind is None or not comes(row, behind):
        return None
    return behind


def can_be(row, wishes):
    """Whether some row that comes of the row meets the wishes; TooFew likewise."""
    return wished(row, wishes) is not None
