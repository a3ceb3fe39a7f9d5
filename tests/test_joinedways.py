import itertools
import math
import unittest

from samples import FEWER, LONG, NINES
from spaceturns.errors import SpaceError, TooGreat
from spaceturns.joinedways import joined_ways, one_way
from spaceturns.products import plain_product
from spaceturns.squares import falling_ways

SMALL_PRIMES = [number for number in range(2, 400) if all(number % lesser for lesser in range(2, number))]


def number_of_way(way):
    return sum(part * part for part in way)


def left_over(n):
    """What is left of a number above 0 when its primes below 400 are taken out."""
    for prime in SMALL_PRIMES:
        while n % prime == 0:
            n //= prime
    return n


class JoinedWays(unittest.TestCase):
    def test_none_and_one(self):
        self.assertEqual(joined_ways([]), (1, 0, 0, 0))
        for way in FEWER:
            self.assertEqual(joined_ways([way]), way)

    def test_the_first_one_times_the_second_one(self):
        self.assertEqual(joined_ways([(1, 1, 0, 0), (1, 0, 1, 0)]), (1, 1, 1, 1))
        self.assertEqual(joined_ways([(1, 0, 1, 0), (1, 1, 0, 0)]), (1, 1, 1, -1))
        self.assertEqual(joined_ways([(0, 1, 0, 0), (0, 0, 1, 0), (0, 0, 0, 1)]), (-1, 0, 0, 0))
        for one, other in itertools.product(FEWER, repeat=2):
            self.assertEqual(joined_ways([one, other]), plain_product(one, other))

    def test_mixed_parts(self):
        self.assertEqual(joined_ways([(1, 2, 0, 3), (4, 0, 1, 1)]), (1, 5, -1, 15))

    def test_a_way_of_the_product(self):
        ways = [way for n in range(1, 40, 3) for way in falling_ways(n)]
        for start in range(0, len(ways) - 20):
            told = joined_ways(ways[start:start + 20])
            self.assertEqual(number_of_way(told), math.prod(number_of_way(way) for way in ways[start:start + 20]))

    def test_twenty_great_ones(self):
        ways = [LONG[step % len(LONG)] for step in range(20)]
        kept = list(ways)
        told = joined_ways(ways)
        self.assertIs(type(told), tuple)
        self.assertEqual(ways, kept)
        self.assertEqual(number_of_way(told), math.prod(number_of_way(way) for way in ways))
        self.assertEqual(joined_ways(ways), told)
        self.assertEqual(joined_ways([told]), told)

    def test_nought_among_them(self):
        self.assertEqual(joined_ways([(1, 2, 3, 4), (0, 0, 0, 0), (5, 6, 7, 8)]), (0, 0, 0, 0))


class OneWay(unittest.TestCase):
    def looked_through(self, n):
        told = one_way(n)
        self.assertIs(type(told), tuple)
        self.assertEqual([type(part) for part in told], [int] * 4)
        self.assertEqual(number_of_way(told), n)
        self.assertEqual(one_way(n), told)

    def refused(self, n):
        with self.assertRaises(SpaceError) as taken:
            one_way(n)
        self.assertIs(taken.exception.__class__, TooGreat, n)

    def test_small_ones(self):
        self.assertEqual(one_way(0), (0, 0, 0, 0))
        for n in range(1, 401):
            self.looked_through(n)

    def test_told_or_refused(self):
        for n in list(range(401, 1700)) + list(range(159990, 160410)):
            if left_over(n) == 1:
                self.looked_through(n)
            else:
                self.refused(n)

    def test_each_prime_below_400(self):
        for prime in SMALL_PRIMES:
            self.looked_through(prime)
            self.looked_through(prime * 2 * 397)

    def test_great_ones(self):
        for n in (2 ** 132, 3 ** 83, 397 ** 15, 10 ** 39, 7 ** 46, 2 * 3 ** 82, 389 ** 15, 6 ** 51):
            self.assertLessEqual(len(str(n)), 40)
            self.looked_through(n)
        self.looked_through(math.prod(SMALL_PRIMES[-15:]))
        self.looked_through(math.prod(SMALL_PRIMES[:25]))
        self.looked_through(2 ** 3300)

    def test_a_great_prime_divides(self):
        for prime in (401, 409, 419, 997, 160001, 999983, 2 ** 61 - 1, 2 ** 127 - 1):
            for number in (1, 2, 397, 2 ** 10):
                self.refused(prime * number)
        self.refused(401 ** 2)
        self.refused(401 * 409 * 2 ** 60)
        self.refused(401 ** 15)
        self.refused(NINES)

    def test_below_nought(self):
        for n in (-1, -2, -3, -4, -397, -400, -401, -2 ** 130, -NINES):
            self.refused(n)


if __name__ == "__main__":
    unittest.main()
