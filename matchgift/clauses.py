"""Clauses: what stands in the way of a row that is to come of another one."""

from matchgift.measures import measure, odd_ones, twos
from matchgift.rings import deeds_until
from matchgift.rows import holders


def has_from_nothing(row, other):
    """Whether somebody who has nothing in the row has something in the other one."""
    return any([before == 0 and behind > 0 for before, behind in zip(row, other)])


def asked_of_any(row, other):
    """Pairs of a clause and whether it is broken, of unlike rows of as many places."""
    as_many_twos = twos(other) == twos(row)
    return (
        ("sum", sum(other) != sum(row)),
        ("nothing", has_from_nothing(row, other)),
        ("measure", measure(other) != measure(row)),
        ("twos", twos(other) < twos(row)),
        ("odd ones", as_many_twos and odd_ones(other) > odd_ones(row)),
        ("doubled", as_many_twos and odd_ones(other) == len(holders(other))),
    )


def run_of_two(row, other):
    """The run by which the other row comes of one in which two holders have something, None where it doesn't.

    TooGreat of a sum above 100000.
    """
    i, j = holders(row)
    # Where both have the same either may give all: it is whoever has nothing in
    # the other row.
    if other[j] == 0:
        i, j = j, i
    # What the two have together is the row's sum, so deeds_until refuses just
    # the sums that are to be refused here.
    many = deeds_until(row, i, j, other[j])
    return None if many is None else (i, j, many)


def broken(row, other):
    """The tuple of the clauses that are broken, in their order; TooGreat where pair is asked of a sum above 100000."""
    if row == other:
        return ()
    if len(row) != len(other):
        return ("places",)
    clauses = tuple([clause for clause, is_broken in asked_of_any(row, other) if is_broken])
    if clauses or len(holders(row)) > 2:
        return clauses
    # Of one holder alone an unlike row breaks sum or nothing, so there are two here.
    return ("pair",) if run_of_two(row, other) is None else ()


def comes(row, other):
    """Whether the other row comes of the row; TooGreat where pair is asked of a sum above 100000."""
    return broken(row, other) == ()
