"""The fours of a size, the classes of mates among those of an odd prime's size, and the ones between mates."""

from spaceturns.dividing import beside, exact, refuse_no_side
from spaceturns.errors import NoPrime, Nought, TooGreat
from spaceturns.fours import NOUGHT
from spaceturns.products import ones, size
from spaceturns.wholes import PRIMES

MOST_SIZE = 97
# The square of 20 is above four times the greatest size.
MOST_PART = 19


def of_size(n):
    if n < 1 or n > MOST_SIZE:
        raise TooGreat(f"fours are told of the sizes from 1 to {MOST_SIZE} alone")
    return sorted(alike_of_size(n, 0) + alike_of_size(n, 1))


# Those with even parts, or with odd ones. Two pairs are joined, as trying all fours would take long.
def alike_of_size(n, odd):
    pairs = pairs_by_squares(odd)
    told = []
    for squares in pairs:
        backs = pairs.get(4 * n - squares, [])
        for front in pairs[squares]:
            told.extend([front + back for back in backs])
    return told


def pairs_by_squares(odd):
    parts = [part for part in range(-MOST_PART, MOST_PART + 1) if part % 2 == odd]
    pairs = {}
    for a in parts:
        for b in parts:
            pairs.setdefault(a * a + b * b, []).append((a, b))
    return pairs


def chosen(p, side):
    refuse_no_side(side)
    if p == 2 or p not in PRIMES:
        raise NoPrime(f"classes are told of the odd primes to {MOST_SIZE} alone")
    told = []
    met = {}
    # From the greatest down, the first one of a class that is met is its greatest.
    for four in reversed(of_size(p)):
        if four not in met:
            told.append(four)
            for one in ones():
                met[beside(four, one, side)] = True
    return sorted(told)


def mate_by(one, other, side):
    refuse_no_side(side)
    if one == NOUGHT or other == NOUGHT:
        raise Nought("nought has no mates")
    if size(one) != size(other):
        return None
    # What is told stands at the side, so it is the other four, the divisor, that stands across from it.
    return exact(one, other, "right" if side == "left" else "left")
