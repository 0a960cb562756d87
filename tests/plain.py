"""Deeds done plainly, one by one, to hold the program against. Nothing here asks the package."""


def one_deed(first, second):
    """The amounts behind one deed of a run; where both have the same, the first one gives."""
    if first >= second:
        return first - second, 2 * second
    return 2 * first, second - first


def one_by_one(first, second, most):
    """The amounts behind 0, 1, .. deeds done one by one, `most` deeds at the most."""
    stands = [(first, second)]
    while 0 not in stands[-1] and len(stands) <= most:
        stands.append(one_deed(*stands[-1]))
    return stands


def whole_walk(first, second):
    """The unlike amounts behind 0, 1, .. deeds, and what comes behind the last: None where one has nothing."""
    stands = {}
    now = (first, second)
    while now not in stands:
        stands[now] = True
        if 0 in now:
            return list(stands), None
        now = one_deed(*now)
    return list(stands), now


def rows_of(places, total):
    """All rows of so many places whose amounts are the total together."""
    if places == 1:
        return [(total,)]
    return [(first,) + rest for first in range(total + 1) for rest in rows_of(places - 1, total - first)]


def behind_deeds(row):
    """The rows behind each deed that may be done."""
    behind = []
    for i, gives in enumerate(row):
        for j, takes in enumerate(row):
            if i != j and gives >= takes > 0:
                amounts = list(row)
                amounts[i] = gives - takes
                amounts[j] = takes + takes
                behind.append(tuple(amounts))
    return behind


def all_that_come(row, nexts=None):
    """The set of the rows that come of the row; `nexts` keeps what was told of the deeds."""
    nexts = {} if nexts is None else nexts
    seen = {row}
    waiting = [row]
    while waiting:
        now = waiting.pop()
        if now not in nexts:
            nexts[now] = behind_deeds(now)
        for behind in nexts[now]:
            if behind not in seen:
                seen.add(behind)
                waiting.append(behind)
    return seen


def how_many_have(row):
    return len([amount for amount in row if amount != 0])


def done(row, plan):
    """The row behind the runs of a plan, each of its deeds done by itself; None where one may not be done."""
    amounts = list(row)
    for i, j, k in plan:
        if i == j or not 0 <= i < len(row) or not 0 <= j < len(row) or 0 in (amounts[i], amounts[j]):
            return None
        for _ in range(k):
            if 0 in (amounts[i], amounts[j]):
                return None
            amounts[i], amounts[j] = one_deed(amounts[i], amounts[j])
    return tuple(amounts)


def jumped(row, plan):
    """The row behind the runs of a plan that may be done, however many deeds: a deed doubles both by rests by their sum.

    None where a run leaves somebody with nothing earlier than by its last deed, or may not be done otherwise.
    """
    amounts = list(row)
    for i, j, k in plan:
        if i == j or not 0 <= i < len(row) or not 0 <= j < len(row) or 0 in (amounts[i], amounts[j]):
            return None
        whole = amounts[i] + amounts[j]
        if k > 0 and amounts[i] * pow(2, k - 1, whole) % whole == 0:
            return None
        amounts[i] = amounts[i] * pow(2, k, whole) % whole
        amounts[j] = whole - amounts[i]
    return tuple(amounts)


def mixed(seed, many, most):
    """A row of so many holders, the sum at most `most`, the same for the same seed."""
    part = most // many
    return tuple(1 + pow(seed + 2, 1000 + 37 * place, 10 ** 40 + 121) % part for place in range(many))


def shared_out(total, parts):
    """A row of the total, each of the parts at its place and all that is left at the last one."""
    return tuple(parts) + (total - sum(parts),)
