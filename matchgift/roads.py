"""Roads: a plan from a row to another one that comes of it.

Both rows are led to the same form, the row ahead, the other one from behind; the
other one's trail, turned round, is the second half of the road.
"""

from matchgift.clauses import broken, run_of_two
from matchgift.errors import TooGreat
from matchgift.falls import come_to_form
from matchgift.measures import twos, twos_in, unit
from matchgift.rows import holders
from matchgift.trails import Trail, even_places, odd_places, runs_of_steps, turned_round

MOST_OF_ROAD = 10 ** 9


def places_of(amounts, amount):
    """The places that have just this amount."""
    return [place for place, there in enumerate(amounts) if there == amount]


def to_a_fourth_part(trail):
    """From behind two holders, with an odd amount and an even one, come to have one that 4 parts; tells who has it."""
    odd, even = odd_places(trail.amounts)[0], even_places(trail.amounts)[0]
    # That ends: the two could go on so for ever with 1 and 2 alone.
    while trail.amounts[even] & 3 != 0:
        trail.go(odd, even, -1)
        odd, even = even, odd
    return even


def widen(trail, places):
    """From behind at least three of the places come to have something, some of them odd amounts, some even ones."""
    spare = [place for place in places if trail.amounts[place] == 0]
    have = holders(trail.amounts)
    if len(have) == 1:
        trail.go(spare.pop(), have[0], -1)
        have = holders(trail.amounts)
    many = twos(trail.amounts)
    if many > 0:
        fewest = min(have, key=lambda place: twos_in(trail.amounts[place]))
        beside = [place for place in have if place != fewest]
        # Both have odd amounts then; a third one, who has an even one, is needed.
        trail.go(spare[0] if len(have) == 2 else beside[0], fewest, -many)
    elif len(have) == 2:
        trail.go(spare[0], to_a_fourth_part(trail), -1)


def begin(trail, kept):
    """Where all amounts are odd the first deed is done, behind which those to be kept still have something."""
    if even_places(trail.amounts):
        return
    places = sorted(holders(trail.amounts), key=lambda place: trail.amounts[place])
    taker, giver = places[0], places[-1]
    if trail.amounts[giver] == trail.amounts[taker]:
        # All have 1, so in any other row of that sum somebody has nothing.
        giver = [place for place in places if place not in kept][0]
        taker = kept[0]
    trail.go(giver, taker, 1)


def join_with_two(trail, rest, place):
    """From behind a form: somebody who has nothing comes to have 2, by who has the rest."""
    other = trail.amounts.index(2)
    trail.go(rest, other, 1)
    trail.go(place, other, -1)


def two_more_odd(trail, rest):
    """From behind a form: two who have 2 come to have 1."""
    first, second, third = places_of(trail.amounts, 2)[:3]
    trail.go(second, first, -1)
    trail.fall(second, third, rest)


def join_with_one(trail, place):
    """From behind a form: somebody who has nothing comes to have 1, as one who had 2 does."""
    trail.go(place, trail.amounts.index(2), -1)


def come_to_likeness(trail, rest, goal):
    """From behind a form: as many come to have something as in the goal, and as many of them odd amounts."""
    joining = [place for place in holders(goal) if trail.amounts[place] == 0]
    pairs = (len(odd_places(goal)) - len(odd_places(trail.amounts))) // 2
    while len(joining) > pairs:
        join_with_two(trail, rest, joining.pop())
    for count in range(pairs - len(joining)):
        two_more_odd(trail, rest)
    for place in joining:
        join_with_one(trail, place)


def hand_rest_over(trail, rest, heir):
    """From behind a form: another one comes to have the rest."""
    by = [place for place in places_of(trail.amounts, 2) if place != heir]
    if not by:
        by = [place for place in places_of(trail.amounts, 1) if place != rest]
        trail.go(heir, by[0], 1)
    trail.fall(rest, by[0], heir)
    if trail.amounts[heir] & 1 == 0:
        trail.go(heir, rest, 1)


def change_ones(trail, goal):
    """From behind a form: those come to have 1 who have it in the goal."""
    too_much = [place for place in places_of(trail.amounts, 2) if goal[place] == 1]
    too_little = [place for place in places_of(goal, 2) if trail.amounts[place] == 1]
    for i, j in zip(too_much, too_little):
        trail.go(i, j, 1)


def meet_forms(behind, rest, goal, goal_rest):
    """From behind a form, the goal, a form, too, is come to."""
    come_to_likeness(behind, rest, goal)
    if rest != goal_rest:
        hand_rest_over(behind, rest, goal_rest)
    change_ones(behind, goal)


def road_of_many(row, other):
    """A plan behind which the row, with at least three holders, is another one that comes of it."""
    part = unit(row)
    ahead = Trail([amount // part for amount in row])
    behind = Trail([amount // part for amount in other])
    if sum(ahead.amounts) == 3:
        # All three have 1: what comes of that but itself comes by one deed.
        giver = [place for place in holders(row) if other[place] == 0][0]
        return ((giver, behind.amounts.index(2), 1),)
    widen(behind, holders(row))
    begin(ahead, holders(behind.amounts))
    goal_rest = come_to_form(ahead, False)
    rest = come_to_form(behind, True)
    meet_forms(behind, rest, ahead.amounts, goal_rest)
    return runs_of_steps(row, ahead.steps + turned_round(behind.steps))


def road(row, other):
    """A plan behind which the row is the other one, None where that doesn't come of it.

    TooGreat where the row's sum is above 10 ** 9, and where the clause pair is asked and it is above 100000.
    """
    if sum(row) > MOST_OF_ROAD:
        raise TooGreat("the row's sum is above that of any road told here")
    if broken(row, other):
        return None
    if row == other:
        return ()
    if len(holders(row)) == 2:
        return (run_of_two(row, other),)
    return road_of_many(row, other)
