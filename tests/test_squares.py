import itertools
import math
import unittest

from samples import NINES
from spaceturns.errors import SpaceError, TooGreat
from spaceturns.squares import count_ways, falling_ways


def falling_by_number():
    """All rows that fall, of roots to 20, by the number to which their squares come."""
    found = {}
    for row in itertools.combinations_with_replacement(range(20, -1, -1), 4):
        found.setdefault(sum(part * part for part in row), []).append(row)
    return found


def orders_and_signs(way):
    orders = set(itertools.permutations(way))
    return sum(2 ** sum(part != 0 for part in order) for order in orders)


def told_sum(n):
    return 8 * sum(number for number in range(1, n + 1) if n % number == 0 and number % 4 != 0)


class FallingWays(unittest.TestCase):
    def test_told_ones(self):
        self.assertEqual(falling_ways(0), [(0, 0, 0, 0)])
        self.assertEqual(falling_ways(1), [(1, 0, 0, 0)])
        self.assertEqual(falling_ways(4), [(1, 1, 1, 1), (2, 0, 0, 0)])
        self.assertEqual(falling_ways(7), [(2, 1, 1, 1)])
        self.assertEqual(falling_ways(25), [(4, 2, 2, 1), (4, 3, 0, 0), (5, 0, 0, 0)])

    def test_all_of_them(self):
        found = falling_by_number()
        for n in range(401):
            told = falling_ways(n)
            self.assertIs(type(told), list)
            self.assertTrue(all(type(way) is tuple for way in told))
            self.assertEqual(told, sorted(found[n]), n)

    def test_numbers_beyond(self):
        for n in (401, 402, 1000, 10 ** 6, 10 ** 20, NINES, -1, -2, -400, -NINES):
            with self.assertRaises(SpaceError) as taken:
                falling_ways(n)
            self.assertIs(taken.exception.__class__, TooGreat, n)

    def test_the_list_is_the_askers_own(self):
        told = falling_ways(50)
        kept = list(told)
        told.reverse()
        told.append("more")
        falling_ways(51)
        self.assertEqual(falling_ways(50), kept)
        self.assertIsNot(falling_ways(50), falling_ways(50))


class CountWays(unittest.TestCase):
    def test_told_ones(self):
        told = [count_ways(n) for n in range(10)]
        self.assertEqual(told, [1, 8, 24, 32, 24, 48, 96, 64, 24, 104])

    def test_divisors_added_up(self):
        for n in list(range(1, 1200)) + [5040, 65536, 99999, 99856, 720720]:
            self.assertEqual(count_ways(n), told_sum(n), n)

    def test_to_a_million(self):
        self.assertEqual(count_ways(1000000), 8 * 3 * 19531)
        self.assertEqual(count_ways(999983), 8 * 999984)
        self.assertEqual(count_ways(2 ** 19), 24)
        self.assertEqual(count_ways(994009), 8 * (1 + 997 + 994009))
        self.assertEqual(count_ways(999999), told_sum(999999))
        for n in range(999000, 1000001):
            self.assertGreaterEqual(count_ways(n), 8)

    def test_orders_and_signs_of_the_falling_ways(self):
        for n in range(401):
            self.assertEqual(sum(orders_and_signs(way) for way in falling_ways(n)), count_ways(n), n)

    def test_ways_by_trying(self):
        for n in range(30):
            most = math.isqrt(n)
            tried = itertools.product(range(-most, most + 1), repeat=4)
            self.assertEqual(sum(sum(part * part for part in row) == n for row in tried), count_ways(n))

    def test_numbers_beyond(self):
        for n in (1000001, 1000002, 10 ** 7, 10 ** 20, NINES, -1, -2, -1000000, -NINES):
            with self.assertRaises(SpaceError) as taken:
                count_ways(n)
            self.assertIs(taken.exception.__class__, TooGreat, n)


if __name__ == "__main__":
    unittest.main()
