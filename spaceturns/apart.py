"""Fours taken apart into ones of prime size, in a told order, and what leads from one such telling to another."""

from spaceturns.dividing import exact
from spaceturns.errors import Divided, NoOrder, Nought
from spaceturns.fours import NOUGHT, is_four
from spaceturns.greatest import greatest
from spaceturns.primesize import mate_by
from spaceturns.products import ONE, product, size
from spaceturns.wholes import PRIMES, common_divisor


def whole_divisor(four):
    if four == NOUGHT:
        raise Nought("each whole number divides nought")
    common = common_divisor(four)
    # Divided by it, some parts may be even and some odd; half of it then leaves them all even.
    return common if is_four(tuple([part // common for part in four])) else common // 2


# A greatest divisor of a plain four and a prime of its size has the prime's size. What is left beside it is plain
# again, as whatever divides that divides the four.
def taken_apart(four, order):
    by = whole_divisor(four)
    at = order_fault(order, size(four))
    if at is not None:
        raise NoOrder(at)
    if by > 1:
        raise Divided(by)
    rest = four
    parts = []
    for prime in reversed(order):
        part = greatest(rest, (2 * prime, 0, 0, 0), "right")[0]
        rest = exact(rest, part, "right")
        parts.append(part)
    return (rest, list(reversed(parts)))


# The place at which the order is not right for the size, or None.
def order_fault(order, whole):
    reached = 1
    for place, number in enumerate(order):
        if number not in PRIMES:
            return place
        reached *= number
    return None if reached == whole else len(order)


def moved_ones(telling, other):
    e, parts = telling
    f, others = other
    if len(parts) != len(others):
        return None
    moved = []
    last = ONE
    for mine, yours in zip([e] + parts, [f] + others):
        last = moved_one(product(last, mine), yours)
        if last is None:
            return None
        moved.append(last)
    return moved


# The one that has to follow yours so that mine comes out, or None.
def moved_one(mine, yours):
    if mine == NOUGHT or yours == NOUGHT:
        return None
    return mate_by(mine, yours, "right")
