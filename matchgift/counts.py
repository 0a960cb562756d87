"""Counts: how many rows come of a row, in whole and by who holds something, by twos and by odd ones."""

from matchgift.errors import TooFew, TooGreat
from matchgift.measures import measure, odd_ones, odd_part, twos, twos_in
from matchgift.rings import primes_in
from matchgift.rows import holders

MOST_COUNTED = 10 ** 12
FEWEST_HOLDERS = 3


def refuse_too_few(row):
    """TooFew where fewer than three holders have something."""
    if len(holders(row)) < FEWEST_HOLDERS:
        raise TooFew("fewer than three holders have something")


def refuse_uncounted(row):
    """TooFew where fewer than three holders have something, then TooGreat where the sum is above 10 ** 12."""
    refuse_too_few(row)
    if sum(row) > MOST_COUNTED:
        raise TooGreat("the row's sum is above any that is counted")


def choices(n, k):
    """In how many ways k of n things can be chosen."""
    many = 1
    for at in range(k):
        many = many * (n - at) // (at + 1)
    return many


def signed_parts(n):
    """Pairs of a sign and a product of unlike primes that part n: 1 where they are even in number, else -1."""
    signed = [(1, 1)]
    for prime in primes_in(n):
        signed = signed + [(-sign, part * prime) for sign, part in signed]
    return signed


def shares(total, many, many_odd):
    """In how many ways so many holders have something each, the total together, just so many of them odd amounts."""
    # Without the least amounts, 1 and 2, all have even ones, whose halves are free.
    left = total - many_odd - 2 * (many - many_odd)
    if left < 0 or left & 1:
        return 0
    return choices(many, many_odd) * choices(left // 2 + many - 1, many - 1)


class Counter:
    """Counts the rows that come of a row, without asking again each time what its clauses hang on."""

    def __init__(self, row):
        self.many_holders = len(holders(row))
        self.total = sum(row) // measure(row)
        self.least_twos = twos(row)
        self.most_twos = twos_in(self.total)
        self.most_odd = odd_ones(row)
        self.signed = signed_parts(odd_part(self.total))

    def is_alone(self, many, many_twos, many_odd):
        """Whether just the row itself comes so: where all its amounts are odd ones, and these, too."""
        return many == many_odd == self.most_odd == self.many_holders and many_twos == self.least_twos

    def breaks_none(self, many, many_twos, many_odd):
        """Whether rows in which so many have something, with these twos and odd ones, break no clause."""
        if not self.least_twos <= many_twos <= self.most_twos or not 1 <= many_odd <= many:
            return False
        return many_twos > self.least_twos or many_odd <= self.most_odd and many_odd < many

    def count_so(self, many, many_twos, many_odd):
        """How many rows come in which just so many holders, told by their places, have something, with these twos."""
        if self.is_alone(many, many_twos, many_odd):
            return 1
        if not self.breaks_none(many, many_twos, many_odd):
            return 0
        total = self.total >> many_twos
        # Ways in which the amounts have a common part are taken off again, by its
        # primes; 2 is none of them, for one amount at least is odd.
        return sum([sign * shares(total // part, many, many_odd) for sign, part in self.signed])

    def count_at(self, many):
        """How many rows come in which just so many holders, told by their places, have something."""
        counts = [
            self.count_so(many, many_twos, many_odd)
            for many_twos in range(self.least_twos, self.most_twos + 1)
            for many_odd in range(1, many + 1)
        ]
        return sum(counts)


def have_something(row, places):
    """Whether all holders at these places have something in the row."""
    return all([row[place] > 0 for place in places])


def how_many(row):
    """How many rows come of the row, itself among them; TooFew, then TooGreat where the sum is above 10 ** 12."""
    refuse_uncounted(row)
    counter = Counter(row)
    whole = len(holders(row))
    return sum([choices(whole, many) * counter.count_at(many) for many in range(1, whole + 1)])


def how_many_at(row, places):
    """How many of them there are in which just the holders at these places have something; refused likewise."""
    refuse_uncounted(row)
    if not have_something(row, places):
        return 0
    return Counter(row).count_at(len(places))


def how_many_so(row, places, many_twos, many_odd):
    """How many of these have so many twos and odd ones; refused likewise."""
    refuse_uncounted(row)
    if not have_something(row, places):
        return 0
    return Counter(row).count_so(len(places), many_twos, many_odd)
