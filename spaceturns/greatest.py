"""Greatest divisors of two fours on a side, told with their multipliers."""

from spaceturns.dividing import beside, divided, refuse_no_side
from spaceturns.fours import NOUGHT, less
from spaceturns.products import ONE


# Each row holds a rest and the multipliers with which it is a sum of multiples of both fours, so that whatever is
# taken from the rest is taken from the multipliers too. The rests' sizes fall, so the walk ends.
def greatest(one, other, side):
    refuse_no_side(side)
    older = (one, ONE, NOUGHT)
    newer = (other, NOUGHT, ONE)
    while newer[0] != NOUGHT:
        quotient = divided(older[0], newer[0], side)[0]
        newest = tuple([less(was, beside(quotient, now, side)) for was, now in zip(older, newer)])
        older = newer
        newer = newest
    return older
