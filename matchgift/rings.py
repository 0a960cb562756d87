"""Rings: by how many deeds two holders come to have again what they had."""

from matchgift.errors import TooGreat
from matchgift.measures import common_part
from matchgift.runs import doubled_by_rests

MOST_IN_RING = 10 ** 9
MOST_IN_WALK = 100000


def together_at_most(row, i, j, most):
    """What both have together; TooGreat where that is above the most."""
    together = row[i] + row[j]
    if together > most:
        raise TooGreat("the two have more together than is told here")
    return together


def primes_in(n):
    """The rising list of the primes that part a whole number from 1."""
    primes = []
    prime = 2
    while prime * prime <= n:
        if n % prime == 0:
            primes.append(prime)
        while n % prime == 0:
            n = n // prime
        prime += 1 if prime == 2 else 2
    if n > 1:
        primes.append(n)
    return primes


def without_common_part(n):
    """How many numbers from 1 to n have no common part with n but 1."""
    many = n
    for prime in primes_in(n):
        many = many // prime * (prime - 1)
    return many


def doublings_to_one(whole):
    """The least k from 1 such that 1 doubled k times is 1 again by rests by an odd number from 3."""
    # Doubling so many times as there are numbers without a common part gives 1
    # (Euler), and the least k parts each such k: so primes are taken out of it
    # as long as 1 is still given, and a ring of 10 ** 9 deeds needn't be walked.
    times = without_common_part(whole)
    primes = primes_in(times)
    for prime in primes:
        while times % prime == 0 and doubled_by_rests(1, times // prime, whole) == 1:
            times = times // prime
    return times


def ring(row, i, j):
    """The least k from 1 behind which both have again what they had; None where that never is.

    TooGreat where both have more than 10 ** 9 together.
    """
    # Counted in their common part, neither amount has a common part with the
    # sum: the amounts are doubled by rests by it, so they are there again where
    # 1 would be. Of an even sum both are odd then, and no doubled one is.
    shares = together_at_most(row, i, j, MOST_IN_RING) // common_part(row[i], row[j])
    if shares & 1 == 0:
        return None
    return doublings_to_one(shares)


def back_run(row, i, j):
    """The run (i, j, k) of the least k that takes (i, j, 1) back; None where there is none.

    TooGreat where both have more than 10 ** 9 together.
    """
    many = ring(row, i, j)
    if many is None:
        return None
    return (i, j, many - 1)


def deeds_until(row, i, j, amount):
    """The least k from 0 such that j has the amount behind (i, j, k); None where there is none.

    TooGreat where both have more than 100000 together.
    """
    together = together_at_most(row, i, j, MOST_IN_WALK)
    left = row[i]
    # i has one of `together` many amounts, and each is followed by one alone:
    # behind so many deeds nothing new comes.
    for k in range(together):
        if together - left == amount:
            return k
        if left == 0:
            return None
        left = 2 * left % together
    return None
