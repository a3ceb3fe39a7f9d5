"""What several modules ask of whole numbers."""

PRIMES = (2, 3, 5, 7, 11, 13, 17, 19, 23, 29, 31, 37, 41, 43, 47, 53, 59, 61, 67, 71, 73, 79, 83, 89, 97)


# The greatest whole number that divides them all; 0 where all of them are 0.
def common_divisor(numbers):
    reached = 0
    for number in numbers:
        reached = shared_by(reached, abs(number))
    return reached


def shared_by(one, other):
    while other != 0:
        rest = one % other
        one = other
        other = rest
    return one
