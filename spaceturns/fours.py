"""Fours: tuples of four whole numbers, all even or all odd, that stand for the number with the halves as parts."""

NOUGHT = (0, 0, 0, 0)


def is_whole(thing):
    # Python counts True and False as ints, the document doesn't.
    return isinstance(thing, int) and not isinstance(thing, bool)


def is_four(thing):
    if not isinstance(thing, tuple) or len(thing) != 4:
        return False
    if not all([is_whole(part) for part in thing]):
        return False
    return all([part % 2 == thing[0] % 2 for part in thing])


def total(one, other):
    return tuple([mine + yours for mine, yours in zip(one, other)])


def less(one, other):
    return tuple([mine - yours for mine, yours in zip(one, other)])


def opposite(one):
    return tuple([-part for part in one])


def many_times(one, number):
    return tuple([part * number for part in one])
