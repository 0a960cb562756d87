"""What the document says of rows, worded once more without the package, to hold the program against."""

import math

from plain import how_many_have


def told_stays(row):
    """Measure, twos and odd ones, and whether all amounts but 0 are odd ones, as [5] words them."""
    amounts = [amount for amount in row if amount != 0]
    unit = math.gcd(*amounts)
    twos = 0
    while unit % 2 == 0:
        unit = unit // 2
        twos += 1
    odd_ones = len([amount for amount in amounts if amount % 2 ** (twos + 1) != 0])
    return unit, twos, odd_ones, odd_ones == len(amounts)


def told_broken(row, other, that_come):
    """The clauses as [7] words them, one behind the other."""
    if row == other:
        return ()
    if len(row) != len(other):
        return ("places",)
    measure, twos, odd_ones, _ = told_stays(row)
    other_measure, other_twos, other_odd_ones, nobody_doubled = told_stays(other)
    told = []
    if sum(row) != sum(other):
        told.append("sum")
    if any(row[place] == 0 and other[place] != 0 for place in range(len(row))):
        told.append("nothing")
    if measure != other_measure:
        told.append("measure")
    if other_twos < twos:
        told.append("twos")
    if other_twos == twos and other_odd_ones > odd_ones:
        told.append("odd ones")
    if other_twos == twos and nobody_doubled:
        told.append("doubled")
    if not told and how_many_have(row) < 3 and other not in that_come:
        told.append("pair")
    return tuple(told)
