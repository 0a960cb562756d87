"""Gathering: as few holders as can be have something."""

from matchgift.measures import measure, odd_part
from matchgift.rows import after_deed, holders
from matchgift.runs import ended_by


def fewest(row):
    """How few holders have something, at the least, in a row that comes of this one."""
    # The measure is odd and parts the sum, so the sum is the measure times a
    # power of two just where the measure is the sum's odd part. Of one holder
    # alone it always is.
    return 1 if odd_part(sum(row)) == measure(row) else 2


def rest_deeds(row, least, middle, greatest):
    """Deeds of three holders, given from the least amount on, behind which one has at most half of the least amount.

    Nobody is left with nothing, but the middle one where the least amount parts its amount.
    """
    times, rest = divmod(row[middle], row[least])
    # The rest alone might be almost the least amount each time, and the plan too
    # long; by the times rounded to the nearest at most half of it is left.
    rounded_up = 2 * rest > row[least]
    figures = times + 1 if rounded_up else times
    steps = []
    # The least one is doubled again and again: by the middle one for each figure
    # 1 of the times in twos, which takes just so many times off it, by the
    # greatest one for each 0. All these 0s together are less than the first
    # figure, so they never use the greatest one up.
    while figures > 1:
        steps.append((middle if figures & 1 else greatest, least))
        figures = figures >> 1
    # The first figure: where the times are rounded up the middle one has less
    # than the one who was doubled, who keeps what is too much.
    steps.append((least, middle) if rounded_up else (middle, least))
    return steps


def lessening(row):
    """Deeds of three holders behind which the least amount is at most half of what it was, perhaps 0."""
    places = sorted(holders(row), key=lambda place: row[place])
    return rest_deeds(row, places[0], places[1], places[-1])


def last_runs(row):
    """The run by which one of the last two is left with nothing, in a list, if there is one."""
    i, j = holders(row)
    many = ended_by(row, i, j)
    return [] if many is None else [(i, j, many)]


def gather(row):
    """A plan behind which as few holders as can be have something."""
    # Of a sum of thirty figures the least amount is halved less than 100 times
    # until somebody is emptied, each time by at most 101 deeds; ten are emptied
    # at the most, so the plan keeps below 200000 runs.
    runs = []
    while len(holders(row)) > 2:
        steps = lessening(row)
        for i, j in steps:
            row = after_deed(row, i, j)
            runs.append((i, j, 1))
    if len(holders(row)) == 2:
        runs.extend(last_runs(row))
    return tuple(runs)
