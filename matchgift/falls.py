"""Falls: a row whose amounts have no common part comes to its form.

In the form one holder, who has the rest, has an odd amount, all others who have
something have 1 or 2. So a form is known by who has the rest, who has 1 and who
has 2.

A trail is led there ahead or from behind. Whoever goes ahead may do any deed,
but undo one alone that the two can undo by going on: where one amount is odd,
the other even. Whoever goes from behind may undo any deed (the row on the trail
is where it comes from), but do one alone of which the same is true behind it.
"""

from matchgift.gathers import rest_deeds
from matchgift.rows import holders
from matchgift.trails import even_places, most_gifts, odd_places


def least_of(trail, places):
    """Which of the places has least."""
    return min(places, key=lambda place: trail.amounts[place])


def third_one(trail, i, j):
    """A holder beside two, with an odd amount if there is one."""
    places = odd_places(trail.amounts) + even_places(trail.amounts)
    return [place for place in places if place != i and place != j][0]


def fall_below(trail, odd):
    """Of the least odd amount, all even ones being greater, a lesser odd one comes, there or at another place."""
    least = trail.amounts[odd]
    place = [at for at, amount in enumerate(trail.amounts) if amount % least != 0][0]
    evens = even_places(trail.amounts)
    giver = place if place in evens else evens[0]
    trail.go(giver, odd, 1)
    trail.fall(place, odd, third_one(trail, odd, place))
    # The rest by twice the least amount may be above it, but isn't that amount.
    if trail.amounts[place] > least:
        trail.go(odd, place, 1)


def fall_to_one(trail):
    """Somebody comes to have 1: from behind, or ahead where there are at least two odd amounts."""
    # The least odd amount becomes less each time, by rests, or by the difference of
    # a rest and itself; where that is slow, the rest is four times as much the next
    # time. So there are some hundred steps for a sum of 10 ** 9, not very many.
    odd = least_of(trail, odd_places(trail.amounts))
    while trail.amounts[odd] > 1:
        even = least_of(trail, even_places(trail.amounts))
        if trail.amounts[even] < trail.amounts[odd]:
            trail.fall(odd, even, third_one(trail, odd, even))
        else:
            fall_below(trail, odd)
        odd = least_of(trail, odd_places(trail.amounts))


def lessen_to_one(trail):
    """Somebody comes to have 1: ahead, where one amount alone is odd, which it stays whatever is done."""
    places = holders(trail.amounts)
    while True:
        places = sorted(places, key=lambda place: trail.amounts[place])
        least, greatest = places[0], places[-1]
        unparted = [place for place in places if trail.amounts[place] % trail.amounts[least] != 0]
        if not unparted:
            return
        if unparted[0] == greatest:
            # Of the three the greatest one can't fall by the least; it gives until it is no more the greatest.
            trail.go(greatest, places[1], most_gifts(trail.amounts[greatest], trail.amounts[places[1]]))
        else:
            gifts = rest_deeds(trail.amounts, least, unparted[0], greatest)
            for i, j in gifts:
                trail.go(i, j, 1)


def evens_to_two(trail, odd, rest):
    """From behind all even amounts but the rest's fall to 2, odd being somebody who has 1; tells who has it then."""
    places = even_places(trail.amounts)
    for place in places:
        if place != rest and trail.amounts[place] > 2:
            trail.go(place, odd, 1)
            trail.fall(place, odd, rest)
            odd = place
    return odd


def come_to_form(trail, from_behind):
    """A trail with odd and even amounts, three or more, comes to a form; tells who has the rest."""
    if from_behind or len(odd_places(trail.amounts)) > 1:
        fall_to_one(trail)
    else:
        lessen_to_one(trail)
    odd = trail.amounts.index(1)
    rest = even_places(trail.amounts)[0]
    if from_behind:
        odd = evens_to_two(trail, odd, rest)
    trail.go(rest, odd, 1)
    places = holders(trail.amounts)
    for place in places:
        if place != odd and place != rest:
            trail.fall(place, odd, rest)
    return rest
