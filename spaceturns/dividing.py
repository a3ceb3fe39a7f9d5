"""Division of fours with a rest, from either side."""

from spaceturns.errors import NoSide, Nought
from spaceturns.fours import NOUGHT, less, many_times
from spaceturns.products import other_signed, product, size


def divided(one, other, side):
    refuse_no_side(side)
    if other == NOUGHT:
        raise Nought("a four is not divided by nought")
    # A four times its other-signed one is its size, so this product is the wanted quotient, size times.
    quotient = nearest(beside(one, other_signed(other), side), size(other))
    return (quotient, less(one, beside(quotient, other, side)))


def exact(one, other, side):
    quotient, rest = divided(one, other, side)
    return quotient if rest == NOUGHT else None


def refuse_no_side(side):
    if side != "left" and side != "right":
        raise NoSide(f"{side!r} is no side")


# The product in which the other one stands at the side.
def beside(one, other, side):
    return product(one, other) if side == "right" else product(other, one)


# The four that lies nearest to the number-th part of a four. Where one of both kinds of fours strays by much, the
# other kind strays by little: the nearer one strays by a half of size 1 at most, so that every rest is small enough.
def nearest(four, number):
    even = tuple([(part + number) // (2 * number) * 2 for part in four])
    odd = tuple([part // (2 * number) * 2 + 1 for part in four])
    return even if strayed(four, even, number) <= strayed(four, odd, number) else odd


def strayed(four, tried, number):
    return size(less(four, many_times(tried, number)))
