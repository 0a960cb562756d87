"""Plans: tuples of runs, done one behind the other and judged."""

from matchgift.errors import NoDeed
from matchgift.runs import ran


def after(row, plan):
    """The row behind the plan; NoDeed where it is none or may not be done, of anything as plan."""
    if not isinstance(plan, tuple):
        raise NoDeed("this is no plan")
    for run in plan:
        row = ran(row, run)
    return row


def shows_plan(row, other, thing):
    """Whether it is a plan behind which the row is the other one, of anything as thing."""
    try:
        behind = after(row, thing)
    except NoDeed:
        return False
    return behind == other


def deeds_in(plan):
    """How many deeds the runs of the plan are together."""
    return sum([k for i, j, k in plan])
