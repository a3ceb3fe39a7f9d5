"""Papers of the main answers, and lookers that walk through them and tell whether they are right."""

from spaceturns.deeds import deed_by
from spaceturns.dividing import beside, exact, refuse_no_side
from spaceturns.fours import NOUGHT, total
from spaceturns.greatest import greatest
from spaceturns.products import product_of, size
from spaceturns.staying import base_of
from spaceturns.tables import behind

NO_AXIS = (0, 0, 0)


def greatest_paper(one, other, side):
    d, s, t = greatest(one, other, side)
    if d == NOUGHT:
        return (d, s, t, NOUGHT, NOUGHT)
    return (d, s, t, exact(one, d, side), exact(other, d, side))


def shows_greatest(one, other, side, paper):
    refuse_no_side(side)
    d, s, t, u, v = paper
    if total(beside(s, one, side), beside(t, other, side)) != d:
        return False
    return beside(u, d, side) == one and beside(v, d, side) == other


def shows_telling(four, order, telling):
    e, parts = telling
    if size(e) != 1 or [size(part) for part in parts] != order:
        return False
    return product_of([e] + parts) == four


def shows_pair(turn, word, first, second):
    if word not in ("half", "mirror") or NO_AXIS in (first, second):
        return False
    return behind(deed_by(word, first).table(), deed_by(word, second).table()) == turn.table()


def shows_base(turn, base):
    return base == base_of(turn)
