"""Runs: any number of deeds between two holders, done in one go."""

from matchgift.errors import NoDeed
from matchgift.measures import common_part, odd_part, twos_in
from matchgift.rows import are_two_holders, is_whole


def ended_by(row, i, j):
    """How many deeds the two can do until one of them has nothing; None where there are ever more."""
    # Each deed doubles both amounts by rests by their sum (see ran); counted in
    # their common part both are odd where the sum is a power of two, so each of
    # its twos takes one deed, and any other sum never comes to a rest of 0.
    shares = (row[i] + row[j]) // common_part(row[i], row[j])
    if odd_part(shares) > 1:
        return None
    return twos_in(shares)


def is_run_of_two(row, thing):
    """Whether it is a run between two holders who have something, of anything as thing."""
    if not isinstance(thing, tuple) or len(thing) != 3:
        return False
    i, j, k = thing
    return are_two_holders(row, i, j) and is_whole(k) and k >= 0


def may_run(row, run):
    """Whether the run may be done in the row, of anything as run."""
    if not is_run_of_two(row, run):
        return False
    i, j, k = run
    most = ended_by(row, i, j)
    return most is None or k <= most


def doubled_by_rests(amount, times, whole):
    """The rest by the whole of the amount doubled so many times."""
    rest = amount % whole
    factor = 2 % whole
    # Squaring the factor takes as many steps as `times` has binary figures, so a
    # run of as many deeds as have thirty figures is told at once.
    while times > 0:
        if times & 1:
            rest = rest * factor % whole
        factor = factor * factor % whole
        times = times >> 1
    return rest


def ran(row, run):
    """The row behind the run; NoDeed where it may not be done, of anything as run."""
    if not may_run(row, run):
        raise NoDeed("this run may not be done in this row")
    i, j, k = run
    together = row[i] + row[j]
    amounts = list(row)
    # The lesser one is doubled, and the greater one is, too, less the sum. The
    # rest is asked of i, not of j: where both have the same it is i who gives
    # and is left with 0, j with the whole.
    amounts[i] = doubled_by_rests(row[i], k, together)
    amounts[j] = together - amounts[i]
    return tuple(amounts)
