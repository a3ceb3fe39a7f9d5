"""Products and sizes of fours, and the twenty-four fours of size 1."""

ONE = (2, 0, 0, 0)


def plain_product(one, other):
    a, b, c, d = one
    e, f, g, h = other
    return (
        a * e - b * f - c * g - d * h,
        a * f + b * e + c * h - d * g,
        a * g - b * h + c * e + d * f,
        a * h + b * g - c * f + d * e,
    )


# Both fours hold doubled parts, so the plain product is four times the number where twice is wanted.
def product(one, other):
    return tuple([part // 2 for part in plain_product(one, other)])


def other_signed(four):
    a, b, c, d = four
    return (a, -b, -c, -d)


def size(four):
    return sum([part * part for part in four]) // 4


def ones():
    told = []
    for part in (-2, 2):
        told.extend([(part, 0, 0, 0), (0, part, 0, 0), (0, 0, part, 0), (0, 0, 0, part)])
    for a in (-1, 1):
        for b in (-1, 1):
            for c in (-1, 1):
                told.extend([(a, b, c, -1), (a, b, c, 1)])
    return sorted(told)


def product_of(fours):
    reached = ONE
    for four in fours:
        reached = product(reached, four)
    return reached
