"""Ways joined to a way of the product of their numbers, and one way of a number whose primes are small."""

from spaceturns.errors import TooGreat
from spaceturns.fours import NOUGHT
from spaceturns.products import plain_product
from spaceturns.squares import falling_ways

FIRST_TOO_GREAT = 400


def joined_ways(ways):
    reached = (1, 0, 0, 0)
    for way in ways:
        reached = plain_product(reached, way)
    return reached


def one_way(n):
    if n == 0:
        return NOUGHT
    primes = small_primes(n)
    by_prime = {}
    for prime in primes:
        if prime not in by_prime:
            by_prime[prime] = falling_ways(prime)[0]
    return joined_ways([by_prime[prime] for prime in primes])


# What divides when its turn comes is a prime, as all lesser ones are taken out by then. Of a number below 0 a -1 is
# left at the end, which is refused like a greater prime.
def small_primes(n):
    told = []
    left = n
    for tried in range(2, FIRST_TOO_GREAT):
        while left % tried == 0:
            told.append(tried)
            left //= tried
    if left != 1:
        raise TooGreat(f"the number is below 0, or a prime of {FIRST_TOO_GREAT} or more divides it")
    return told
