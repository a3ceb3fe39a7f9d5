import itertools
import unittest

from samples import FEWER, FOURS, LONG, MIXED, NINES, NO_SIDES, NOUGHT, ONE, SIDES, SMALL
from spaceturns.dividing import exact
from spaceturns.errors import NoSide, SpaceError
from spaceturns.fours import is_four, many_times, total
from spaceturns.greatest import greatest
from spaceturns.products import product, size


def multiple(quotient, other, side):
    return product(quotient, other) if side == "right" else product(other, quotient)


def is_multiple(one, other, side):
    return one == NOUGHT if other == NOUGHT else exact(one, other, side) is not None


class Greatest(unittest.TestCase):
    def looked_through(self, one, other, side):
        told = greatest(one, other, side)
        self.assertIs(type(told), tuple)
        d, s, t = told
        for four in told:
            self.assertTrue(is_four(four), (one, other, side))
        self.assertEqual(total(multiple(s, one, side), multiple(t, other, side)), d, (one, other, side))
        self.assertTrue(is_multiple(one, d, side) and is_multiple(other, d, side), (one, other, side))
        return d

    def test_each_with_each(self):
        for one, other, side in itertools.product(FOURS, FEWER, SIDES):
            self.looked_through(one, other, side)
            self.looked_through(other, one, side)

    def test_two_noughts(self):
        for side in SIDES:
            d, s, t = greatest(NOUGHT, NOUGHT, side)
            self.assertEqual(d, NOUGHT)
            self.assertTrue(is_four(s) and is_four(t))

    def test_one_nought(self):
        for four, side in itertools.product(FOURS, SIDES):
            self.assertEqual(size(self.looked_through(four, NOUGHT, side)), size(four))
            self.assertEqual(size(self.looked_through(NOUGHT, four, side)), size(four))
            self.assertEqual(size(self.looked_through(four, four, side)), size(four))

    def test_a_shared_divisor_divides_the_greatest(self):
        shared = [(2, 4, 0, 0), (1, 3, -1, 5), (4, 4, 2, 2), (0, 6, 0, 0)] + LONG[2:]
        for d, side in itertools.product(shared, SIDES):
            for u, v in itertools.combinations(MIXED + LONG[:2] + SMALL[::11], 2):
                told = self.looked_through(multiple(u, d, side), multiple(v, d, side), side)
                self.assertTrue(is_multiple(told, d, side), (u, v, d, side))

    def test_sizes_without_common_divisor(self):
        for side in SIDES:
            self.assertEqual(size(self.looked_through((2, 4, 0, 0), (2, 2, 2, 0), side)), 1)
            self.assertEqual(size(self.looked_through((NINES, 1, 1, 1), ONE, side)), 1)

    def test_sides_are_told_apart(self):
        d, u, v = (2, 4, 0, 0), (2, 0, 4, 0), (2, 2, 2, 0)
        one, other = product(u, d), product(v, d)
        self.assertEqual(size(greatest(one, other, "right")[0]), 5)
        self.assertEqual(size(greatest(one, other, "left")[0]), 1)
        one, other = product(d, u), product(d, v)
        self.assertEqual(size(greatest(one, other, "left")[0]), 5)
        self.assertEqual(size(greatest(one, other, "right")[0]), 1)

    def test_whole_numbers(self):
        for one, other, shared in ((12, 18, 6), (35, 64, 1), (NINES, 99, 99), (0, 7, 7)):
            for side in SIDES:
                d = self.looked_through(many_times(ONE, one), many_times(ONE, other), side)
                self.assertEqual(size(d), shared * shared)

    def test_all_greatest_ones_of_small_fours(self):
        # No four of which both are multiples is greater than the told one, and each has it as a multiple.
        tried = SMALL + [(3, 1, 1, 1), (1, 3, -1, 1), (4, 2, 0, 0), (2, 2, 2, -4)]
        for one, other, side in itertools.product(tried[::8], tried[::5], SIDES):
            d = greatest(one, other, side)[0]
            for four in tried:
                both = is_multiple(one, four, side) and is_multiple(other, four, side)
                self.assertEqual(both, is_multiple(d, four, side), (one, other, side, four))

    def test_what_was_told_is_handed_in_again(self):
        for side in SIDES:
            one, other = LONG[0], LONG[1]
            for _ in range(5):
                d, s, t = greatest(one, other, side)
                one, other = multiple(s, one, side), multiple(t, other, side)
                self.looked_through(one, other, side)

    def test_a_thousand_figures(self):
        one = (10 ** 999 + 1, -3, 10 ** 998 + 7, 10 ** 500 + 1)
        other = (6 * 10 ** 998, 10 ** 999 - 2, -14, 3 * 10 ** 700)
        for side in SIDES:
            self.looked_through(one, other, side)

    def test_no_side(self):
        for side, four in itertools.product(NO_SIDES, (NOUGHT, ONE, LONG[0])):
            for other in (NOUGHT, (3, 1, 1, 1)):
                with self.assertRaises(SpaceError) as taken:
                    greatest(four, other, side)
                self.assertIs(taken.exception.__class__, NoSide)

    def test_the_same_is_told_again(self):
        asked = list(itertools.product(MIXED + LONG, MIXED + LONG, SIDES))
        first = [greatest(*each) for each in asked]
        with self.assertRaises(NoSide):
            greatest(ONE, ONE, "up")
        self.assertEqual([greatest(*each) for each in reversed(asked)], first[::-1])


if __name__ == "__main__":
    unittest.main()
