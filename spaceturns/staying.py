"""Spots that stay whole under a turn: the corner number, and the base whose whole sums they are."""

from spaceturns.fours import less, many_times
from spaceturns.products import other_signed, plain_product
from spaceturns.tables import number_of

UNITS = ((1, 0, 0, 0), (0, 1, 0, 0), (0, 0, 1, 0), (0, 0, 0, 1))


def stays(turn, spot):
    return turn.place(spot)[0] == 1


def corner_number(turn):
    return turn.table()[0]


def base_of(turn):
    spots = staying_spots(turn)
    base = []
    for place in range(3):
        lead, spots = swept(spots, place)
        base.append(lead)
    return reduced(base)


# With q the turn's number and r its other-signed one, the turn brings the last three parts of r times x to whole ones
# for whole x, as q (r x) r is q r times x r. Their whole sums, with those of the corner number at each place, are all.
def staying_spots(turn):
    n = corner_number(turn)
    back = other_signed(number_of(turn.table()))
    return [plain_product(back, unit)[1:] for unit in UNITS] + [(n, 0, 0), (0, n, 0), (0, 0, n)]


# A spot that leads at the place, and the others with 0 there, that all together have the same whole sums. The last
# spot that is not 0 there is above 0, and so are the rests that it leaves: so the leading number is above 0 too.
def swept(spots, place):
    lead = (0, 0, 0)
    others = []
    for spot in spots:
        rest = spot
        while rest[place] != 0:
            newest = brought_below(lead, rest, place)
            lead = rest
            rest = newest
        others.append(rest)
    return (lead, others)


# The spot less so many times the other that its number at the place lies from 0 on and below the other's.
def brought_below(spot, other, place):
    return less(spot, many_times(other, spot[place] // other[place]))


def reduced(base):
    first, second, third = base
    second = brought_below(second, third, 2)
    first = brought_below(brought_below(first, second, 1), third, 2)
    return (first, second, third)


def sums_in(base, spot):
    left = spot
    told = []
    for place, one in enumerate(base):
        times = left[place] // one[place]
        left = less(left, many_times(one, times))
        if left[place] != 0:
            return None
        told.append(times)
    return tuple(told)
