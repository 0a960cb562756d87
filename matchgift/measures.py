"""What deeds keep of a row, and what they change one way alone."""


def twos_in(n):
    """How often 2 parts a whole number from 1."""
    # n & -n is the greatest power of two that parts n.
    return (n & -n).bit_length() - 1


def odd_part(n):
    """What is left of a whole number from 1 without its twos."""
    return n >> twos_in(n)


def common_part(a, b):
    """The greatest number that parts both; the other one where one of them is 0."""
    while b > 0:
        a, b = b, a % b
    return a


def unit(row):
    """The greatest number that parts all amounts of the row."""
    greatest = 0
    for amount in row:
        greatest = common_part(greatest, amount)
    return greatest


def measure(row):
    """The odd part of the row's unit."""
    return odd_part(unit(row))


def twos(row):
    """How often 2 parts the row's unit."""
    return twos_in(unit(row))


def odd_ones(row):
    """How many amounts, 0 left out, are parted by 2 no oftener than the row's unit."""
    fewest_twos = twos(row)
    return len([amount for amount in row if amount > 0 and twos_in(amount) <= fewest_twos])
