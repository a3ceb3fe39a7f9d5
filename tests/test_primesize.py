import itertools
import unittest

from samples import FOURS, LONG, MIXED, NINES, NO_SIDES, NOUGHT, ONE, PRIMES, SIDES
from spaceturns.errors import NoPrime, NoSide, Nought, SpaceError, TooGreat
from spaceturns.fours import is_four, many_times, opposite
from spaceturns.primesize import chosen, mate_by, of_size
from spaceturns.products import ones, product, size

ODD_PRIMES = PRIMES[1:]


def mated(four, one, side):
    return product(one, four) if side == "left" else product(four, one)


class OfSize(unittest.TestCase):
    def test_as_many_as_told(self):
        for n in range(1, 98):
            odds = sum(odd for odd in range(1, n + 1, 2) if n % odd == 0)
            told = of_size(n)
            self.assertIs(type(told), list)
            self.assertEqual(len(told), 24 * odds, n)
            self.assertEqual(len(set(told)), len(told), n)
            self.assertEqual(told, sorted(told), n)
            for four in told:
                self.assertTrue(is_four(four) and size(four) == n, (n, four))

    def test_all_small_ones_by_trying(self):
        tried = list(itertools.product(range(-6, 7, 2), repeat=4)) + list(itertools.product(range(-5, 6, 2), repeat=4))
        for n in range(1, 9):
            self.assertEqual(of_size(n), sorted(four for four in tried if size(four) == n))

    def test_the_ones(self):
        self.assertEqual(of_size(1), ones())

    def test_odd_primes(self):
        for p in ODD_PRIMES:
            self.assertEqual(len(of_size(p)), 24 * (p + 1))

    def test_the_edges(self):
        self.assertEqual(len(of_size(97)), 24 * 98)
        self.assertEqual(of_size(81)[-1], (18, 0, 0, 0))
        self.assertEqual(of_size(64)[0], (-16, 0, 0, 0))
        for n in (0, -1, -97, 98, 99, 100, 194, NINES, -NINES, 10 ** 1000):
            with self.assertRaises(SpaceError) as taken:
                of_size(n)
            self.assertIs(taken.exception.__class__, TooGreat)

    def test_a_changed_list_changes_nothing_later(self):
        for n in (1, 2, 6, 97):
            first = of_size(n)
            kept = list(first)
            second = of_size(n)
            first.append(ONE)
            first[0] = NOUGHT
            first.reverse()
            self.assertEqual(second, kept)
            second.clear()
            self.assertEqual(of_size(n), kept)


class Chosen(unittest.TestCase):
    def test_the_greatest_of_each_class(self):
        for p, side in itertools.product(ODD_PRIMES, SIDES):
            told = chosen(p, side)
            self.assertIs(type(told), list)
            self.assertEqual(len(told), p + 1)
            self.assertEqual(told, sorted(set(told)))
            met = set()
            for four in told:
                mates = {mated(four, one, side) for one in ones()}
                self.assertEqual(len(mates), 24)
                self.assertEqual(max(mates), four)
                self.assertFalse(met & mates)
                met |= mates
            self.assertEqual(sorted(met), of_size(p))

    def test_told_ones(self):
        for side in SIDES:
            self.assertEqual(chosen(3, side), [(3, 1, -1, -1), (3, 1, -1, 1), (3, 1, 1, -1), (3, 1, 1, 1)])
            self.assertEqual((len(chosen(5, side)), len(chosen(97, side))), (6, 98))

    def test_sides_are_told_apart(self):
        for p in ODD_PRIMES:
            by_left = {frozenset(mated(four, one, "left") for one in ones()) for four in chosen(p, "left")}
            by_right = {frozenset(mated(four, one, "right") for one in ones()) for four in chosen(p, "right")}
            self.assertNotEqual(by_left, by_right, p)

    def test_no_odd_prime(self):
        others = [n for n in range(-100, 300) if n not in ODD_PRIMES] + [NINES, -NINES, 10 ** 1000]
        for n, side in itertools.product(others, SIDES):
            with self.assertRaises(SpaceError) as taken:
                chosen(n, side)
            self.assertIs(taken.exception.__class__, NoPrime, n)

    def test_no_side_ahead_of_no_prime(self):
        for side, n in itertools.product(NO_SIDES, (3, 2, 1, 0, -3, 4, 97, 101)):
            with self.assertRaises(SpaceError) as taken:
                chosen(n, side)
            self.assertIs(taken.exception.__class__, NoSide)

    def test_a_changed_list_changes_nothing_later(self):
        for p, side in itertools.product((3, 5, 97), SIDES):
            first = chosen(p, side)
            kept = list(first)
            second = chosen(p, side)
            first.pop()
            first[0] = NOUGHT
            of_size(p).clear()
            ones().clear()
            self.assertEqual(second, kept)
            second.reverse()
            self.assertEqual(chosen(p, side), kept)


class MateBy(unittest.TestCase):
    def test_each_one(self):
        for four, one, side in itertools.product(FOURS, ones(), SIDES):
            if four != NOUGHT:
                self.assertEqual(mate_by(mated(four, one, side), four, side), one, (four, one, side))

    def test_a_thousand_figures(self):
        four = (10 ** 999 + 1, -3, 10 ** 998 + 7, 10 ** 500 + 1)
        for one, side in itertools.product(ones(), SIDES):
            self.assertEqual(mate_by(mated(four, one, side), four, side), one)

    def test_among_the_fours_of_a_size(self):
        for n, side in itertools.product((1, 2, 3, 4, 5), SIDES):
            fours = of_size(n)
            for other in fours[::5]:
                by_mate = {mated(other, one, side): one for one in ones()}
                for one in fours:
                    self.assertEqual(mate_by(one, other, side), by_mate.get(one), (one, other, side))

    def test_sides_are_told_apart(self):
        four, one = (2, 4, 0, 0), (1, 1, 1, 1)
        self.assertEqual(mate_by(product(one, four), four, "left"), one)
        self.assertEqual(mate_by(product(four, one), four, "right"), one)
        self.assertIsNone(mate_by(product(one, four), four, "right"))
        self.assertIsNone(mate_by(product(four, one), four, "left"))

    def test_none(self):
        for side in SIDES:
            # one is a multiple of the other, yet not by a one
            self.assertIsNone(mate_by((4, 0, 0, 0), ONE, side))
            self.assertIsNone(mate_by(ONE, (4, 0, 0, 0), side))
            self.assertIsNone(mate_by(ONE, (2, 2, 0, 0), side))
            # as great, yet no multiple
            self.assertIsNone(mate_by((2, 4, 0, 0), (4, 2, 0, 0), side))
            self.assertIsNone(mate_by((10, 0, 0, 0), (6, 8, 0, 0), side))
            for four in MIXED + LONG:
                self.assertIsNone(mate_by(many_times(four, 2), four, side))
                self.assertIsNone(mate_by(four, many_times(four, -3), side))
                self.assertEqual(mate_by(four, opposite(four), side), opposite(ONE))

    def test_nought(self):
        for side, four in itertools.product(SIDES, [NOUGHT, ONE, (3, 1, 1, 1)] + LONG):
            for one, other in ((NOUGHT, four), (four, NOUGHT)):
                with self.assertRaises(SpaceError) as taken:
                    mate_by(one, other, side)
                self.assertIs(taken.exception.__class__, Nought)

    def test_no_side_ahead_of_nought(self):
        for side, one, other in itertools.product(NO_SIDES, (NOUGHT, ONE, (4, 0, 0, 0)), (NOUGHT, ONE)):
            with self.assertRaises(SpaceError) as taken:
                mate_by(one, other, side)
            self.assertIs(taken.exception.__class__, NoSide)


if __name__ == "__main__":
    unittest.main()
