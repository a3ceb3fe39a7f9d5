"""Turns found by their tables, and told as two half turns and as two mirrors."""

from spaceturns.deeds import HalfTurn, Mirror, Turn
from spaceturns.products import plain_product
from spaceturns.tables import number_of


def turn_of(table):
    return Turn(number_of(table))


def half_turns(turn):
    first, second = two_axes(number_of(turn.table()))
    return (HalfTurn(first), HalfTurn(second))


# Each mirror's table is a half turn's with the other sign, and behind one another the signs go out.
def mirrors(turn):
    first, second = two_axes(number_of(turn.table()))
    return (Mirror(first), Mirror(second))


# The number times the first axis has no first part, as that axis is upright on the turn's own; so it is an axis too.
# That product times the first axis again is the number, but for a whole number.
def two_axes(number):
    first = upright_axis(number)
    return (first, plain_product(number, (0,) + first)[1:])


# An axis upright on the turn's own, or any axis where the turn has none.
def upright_axis(number):
    a, b, c, d = number
    return (1, 0, 0) if b == 0 else (-c, b, 0)
