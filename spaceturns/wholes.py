"""What several modules ask of whole numbers."""

from spaceturns.errors import Nought

PRIMES = (2, 3, 5, 7, 11, 13, 17, 19, 23, 29, 31, 37, 41, 43, 47, 53, 59, 61, 67, 71, 73, 79, 83, 89, 97)


# The greatest whole number that divides them all; 0 where all of them are 0.
def common_divisor(numbers):
    reached = 0
    for number in numbers:
        reached = shared_by(reached, abs(number))
    return reached


def shared_by(one, other):
    while other != 0:
        rest = one % other
        one = other
        other = rest
    return one


def shortened(numbers, divisor):
    return tuple([number // divisor for number in numbers])


# The row as a turn's number and an axis are told: no common divisor above 1, the first one that is not 0 above 0.
def upright(numbers):
    common = common_divisor(numbers)
    if common == 0:
        raise Nought("a turn or an axis of noughts alone")
    leading = [number for number in numbers if number != 0][0]
    return shortened(numbers, common if leading > 0 else -common)


# The products place by place, added up.
def added_products(one, other):
    return sum([mine * yours for mine, yours in zip(one, other)])
