import itertools
import unittest

from samples import FEWER, FOURS, LONG, MIXED, NINES, NO_SIDES, NOUGHT, ONE, SIDES, SMALL
from spaceturns.dividing import divided, exact
from spaceturns.errors import NoSide, Nought, SpaceError
from spaceturns.fours import is_four, less, total
from spaceturns.products import other_signed, product, size

NOT_NOUGHT = [four for four in FOURS if four != NOUGHT]

# With a thousand figures, as far as what was told may be handed in again.
GREAT = (10 ** 999 + 1, -3, 10 ** 998 + 7, 10 ** 500 + 1)


def multiple(quotient, other, side):
    return product(quotient, other) if side == "right" else product(other, quotient)


class Divided(unittest.TestCase):
    def looked_through(self, one, other, side):
        told = divided(one, other, side)
        self.assertIs(type(told), tuple)
        quotient, rest = told
        self.assertTrue(is_four(quotient) and is_four(rest), (one, other, side))
        self.assertEqual(total(multiple(quotient, other, side), rest), one, (other, side))
        self.assertLess(size(rest), size(other), (one, other, side))
        return quotient, rest

    def test_each_by_each(self):
        for one, side in itertools.product(FOURS, SIDES):
            for other in FEWER:
                if other != NOUGHT:
                    self.looked_through(one, other, side)

    def test_long_by_short_and_short_by_long(self):
        for one, other, side in itertools.product(LONG, NOT_NOUGHT, SIDES):
            self.looked_through(one, other, side)
            self.looked_through(other, one, side)

    def test_halfway_between_fours(self):
        # The farthest from all fours that a quotient can lie: by 2 and by 1 + i, at every small four and a great one.
        for other in ((4, 0, 0, 0), (2, 2, 0, 0), (2, 0, 0, -2), (-4, 0, 0, 0), (4, 4, 4, 4)):
            for one in itertools.chain(itertools.product(range(-4, 5, 2), repeat=4), [(NINES, NINES, NINES, 1)]):
                for side in SIDES:
                    self.looked_through(one, other, side)

    def test_a_thousand_figures(self):
        for side in SIDES:
            self.looked_through(GREAT, (NINES, 1, 1, 3), side)
            self.looked_through((NINES, 1, 1, 3), GREAT, side)
            self.looked_through(GREAT, (3, -1, 1, 1), side)

    def test_multiples_leave_nought(self):
        for quotient, other, side in itertools.product(FOURS, FEWER, SIDES):
            if other != NOUGHT:
                one = multiple(quotient, other, side)
                self.assertEqual(divided(one, other, side), (quotient, NOUGHT), (one, other, side))

    def test_sides_are_told_apart(self):
        one = product((2, 4, 0, 0), (2, 0, 4, 0))
        self.assertEqual(divided(one, (2, 0, 4, 0), "right"), ((2, 4, 0, 0), NOUGHT))
        self.assertEqual(divided(one, (2, 4, 0, 0), "left"), ((2, 0, 4, 0), NOUGHT))
        self.assertNotEqual(divided(one, (2, 0, 4, 0), "left")[1], NOUGHT)
        self.assertNotEqual(divided(one, (2, 4, 0, 0), "right")[1], NOUGHT)

    def test_nought_by_any(self):
        for other, side in itertools.product(NOT_NOUGHT, SIDES):
            self.assertEqual(divided(NOUGHT, other, side), (NOUGHT, NOUGHT))

    def test_by_nought(self):
        for one, side in itertools.product(FOURS, SIDES):
            with self.assertRaises(SpaceError) as taken:
                divided(one, NOUGHT, side)
            self.assertIs(taken.exception.__class__, Nought)

    def test_no_side_ahead_of_all_else(self):
        for side, other in itertools.product(NO_SIDES, (NOUGHT, ONE, (1, 3, 5, 7))):
            for one in (NOUGHT, ONE, LONG[0]):
                with self.assertRaises(SpaceError) as taken:
                    divided(one, other, side)
                self.assertIs(taken.exception.__class__, NoSide)

    def test_the_same_is_told_again(self):
        asked = list(itertools.product(MIXED + LONG, MIXED + LONG, SIDES))
        first = [divided(*each) for each in asked]
        for refused in ((ONE, NOUGHT, "left"), (ONE, ONE, "up")):
            with self.assertRaises(SpaceError):
                divided(*refused)
        self.assertEqual([divided(*each) for each in reversed(asked)], first[::-1])


class Exact(unittest.TestCase):
    def test_multiples(self):
        for quotient, other, side in itertools.product(FOURS, FEWER, SIDES):
            if other != NOUGHT:
                self.assertEqual(exact(multiple(quotient, other, side), other, side), quotient)

    def test_multiples_and_others_among_small_ones(self):
        # All fours of sizes to 4 are quotients enough for these.
        quotients = SMALL + [four for four in itertools.product((-4, 0, 4), repeat=4) if size(four) == 4]
        quotients += [four for four in itertools.product((-3, -1, 1, 3), repeat=4) if size(four) <= 4]
        for other, side in itertools.product(SMALL[::3] + [(3, 1, 1, 1), (2, 2, 2, 0)], SIDES):
            if other == NOUGHT:
                continue
            by_one = {multiple(quotient, other, side): quotient for quotient in quotients}
            for one in SMALL + [(3, 1, 1, 1), (4, 2, 0, 0), (6, 0, 0, 0)]:
                if size(one) <= 4 * size(other):
                    self.assertEqual(exact(one, other, side), by_one.get(one), (one, other, side))

    def test_one_side_alone(self):
        one = product((2, 4, 0, 0), (2, 0, 4, 0))
        self.assertEqual(exact(one, (2, 0, 4, 0), "right"), (2, 4, 0, 0))
        self.assertEqual(exact(one, (2, 4, 0, 0), "left"), (2, 0, 4, 0))
        self.assertIsNone(exact(one, (2, 0, 4, 0), "left"))
        self.assertIsNone(exact(one, (2, 4, 0, 0), "right"))

    def test_no_multiples(self):
        for side in SIDES:
            self.assertIsNone(exact(ONE, (4, 0, 0, 0), side))
            self.assertIsNone(exact(ONE, (2, 2, 0, 0), side))
            self.assertIsNone(exact((6, 0, 0, 0), (2, 4, 0, 0), side))
            # the sizes divide, the fours don't
            self.assertIsNone(exact((2, 4, 0, 0), (4, 2, 0, 0), side))
            for other in LONG:
                self.assertIsNone(exact(total(product(other, other), ONE), other, side))

    def test_great_ones(self):
        for other in LONG:
            whole = (2 * size(other), 0, 0, 0)
            for side in SIDES:
                self.assertEqual(exact(whole, other, side), other_signed(other))
                self.assertEqual(exact(multiple(GREAT, other, side), other, side), GREAT)
                self.assertIsNone(exact(less(whole, ONE), other, side))

    def test_nought(self):
        for other, side in itertools.product(NOT_NOUGHT, SIDES):
            self.assertEqual(exact(NOUGHT, other, side), NOUGHT)
            for one in (NOUGHT, other):
                with self.assertRaises(SpaceError) as taken:
                    exact(one, NOUGHT, side)
                self.assertIs(taken.exception.__class__, Nought)

    def test_no_side_ahead_of_all_else(self):
        for side, other in itertools.product(NO_SIDES, (NOUGHT, ONE, (4, 0, 0, 0))):
            with self.assertRaises(SpaceError) as taken:
                exact(ONE, other, side)
            self.assertIs(taken.exception.__class__, NoSide)


if __name__ == "__main__":
    unittest.main()
