import itertools
import unittest

from samples import FEWER, FOURS, LONG, NINES, SMALL
from spaceturns.fours import is_four, less, many_times, opposite, total
from spaceturns.products import ones, other_signed, plain_product, product, product_of, size

ONE, I, J, K = (2, 0, 0, 0), (0, 2, 0, 0), (0, 0, 2, 0), (0, 0, 0, 2)

# What the signs make of one another, as point 7 tells it: (place, sign) of the product.
SIGNS = {
    (1, 1): (0, -1), (2, 2): (0, -1), (3, 3): (0, -1),
    (1, 2): (3, 1), (2, 3): (1, 1), (3, 1): (2, 1),
    (2, 1): (3, -1), (3, 2): (1, -1), (1, 3): (2, -1),
    (0, 0): (0, 1), (0, 1): (1, 1), (0, 2): (2, 1), (0, 3): (3, 1), (1, 0): (1, 1), (2, 0): (2, 1), (3, 0): (3, 1),
}


def multiplied_out(one, other):
    parts = [0, 0, 0, 0]
    for (mine, yours), (place, sign) in SIGNS.items():
        parts[place] += sign * one[mine] * other[yours]
    return tuple(parts)


class Products(unittest.TestCase):
    def test_the_signs(self):
        for sign in (I, J, K):
            self.assertEqual(product(sign, sign), opposite(ONE))
            self.assertEqual(product(ONE, sign), sign)
            self.assertEqual(product(sign, ONE), sign)
        self.assertEqual(product(I, J), K)
        self.assertEqual(product(J, K), I)
        self.assertEqual(product(K, I), J)
        self.assertEqual(product(J, I), opposite(K))
        self.assertEqual(product(K, J), opposite(I))
        self.assertEqual(product(I, K), opposite(J))

    def test_plain_products_of_the_signs(self):
        places = [(1, 0, 0, 0), (0, 1, 0, 0), (0, 0, 1, 0), (0, 0, 0, 1)]
        for (mine, yours), (place, sign) in SIGNS.items():
            self.assertEqual(plain_product(places[mine], places[yours]), many_times(places[place], sign))

    def test_told_ones(self):
        self.assertEqual(plain_product((1, 2, 3, 4), (5, 6, 7, 8)), (-60, 12, 30, 24))
        self.assertEqual(plain_product((5, 6, 7, 8), (1, 2, 3, 4)), (-60, 20, 14, 32))
        self.assertEqual(product((1, 1, 1, 1), (1, 1, 1, 1)), (-1, 1, 1, 1))
        self.assertEqual(product((2, 4, 6, 8), (10, 12, 14, 16)), (-120, 24, 60, 48))

    def test_plain_product_of_any_whole_numbers(self):
        rows = list(itertools.product((-1, 0, 2), repeat=4)) + [(1, 2, 3, 4), (NINES, -7, 10 ** 39, -NINES)]
        for one in rows[::3] + rows[-2:]:
            for other in rows:
                self.assertEqual(plain_product(one, other), multiplied_out(one, other))

    def test_product_is_half_the_plain_one_and_a_four(self):
        for one in FEWER:
            for other in FOURS:
                told = product(one, other)
                self.assertTrue(is_four(told), (one, other))
                self.assertEqual(many_times(told, 2), multiplied_out(one, other))

    def test_laws(self):
        for one, other, third in itertools.product(FEWER[::3] + LONG[:1], repeat=3):
            self.assertEqual(product(product(one, other), third), product(one, product(other, third)))
            self.assertEqual(product(one, total(other, third)), total(product(one, other), product(one, third)))
            self.assertEqual(product(less(one, other), third), less(product(one, third), product(other, third)))

    def test_nought_and_one(self):
        for four in FOURS:
            self.assertEqual(product(four, (0, 0, 0, 0)), (0, 0, 0, 0))
            self.assertEqual(product((0, 0, 0, 0), four), (0, 0, 0, 0))
            self.assertEqual(product(four, ONE), four)
            self.assertEqual(product(ONE, four), four)


class Sizes(unittest.TestCase):
    def test_told_ones(self):
        self.assertEqual(size((0, 0, 0, 0)), 0)
        self.assertEqual(size((2, 0, 0, 0)), 1)
        self.assertEqual(size((1, 1, 1, 1)), 1)
        self.assertEqual(size((2, -4, 0, 6)), 14)
        self.assertEqual(size((1, -3, 5, 7)), 21)
        self.assertEqual(size((2, 2, 0, 0)), 2)
        self.assertEqual(size((NINES, NINES, NINES, -NINES)), NINES * NINES)
        self.assertEqual(other_signed((2, -4, 0, 6)), (2, 4, 0, -6))
        self.assertEqual(other_signed((-1, 3, 5, -NINES)), (-1, -3, -5, NINES))
        self.assertEqual(other_signed((0, 0, 0, 0)), (0, 0, 0, 0))

    def test_four_times_the_size(self):
        for four in FOURS:
            a, b, c, d = four
            self.assertEqual(4 * size(four), a * a + b * b + c * c + d * d)
            self.assertIs(type(size(four)), int)

    def test_only_nought_has_none(self):
        for four in FOURS:
            self.assertEqual(size(four) == 0, four == (0, 0, 0, 0))
            self.assertGreaterEqual(size(four), 0)

    def test_sizes_multiply(self):
        for one in FEWER:
            for other in FOURS:
                self.assertEqual(size(product(one, other)), size(one) * size(other))

    def test_times_its_other_signed_one(self):
        for four in FOURS:
            whole = (2 * size(four), 0, 0, 0)
            self.assertEqual(product(four, other_signed(four)), whole)
            self.assertEqual(product(other_signed(four), four), whole)

    def test_other_signed_product_is_turned_round(self):
        for one in FEWER:
            for other in FEWER:
                turned = product(other_signed(other), other_signed(one))
                self.assertEqual(other_signed(product(one, other)), turned)


class Ones(unittest.TestCase):
    def test_twenty_four_rising_unlike(self):
        told = ones()
        self.assertIs(type(told), list)
        self.assertEqual(len(told), 24)
        self.assertEqual(len(set(told)), 24)
        self.assertEqual(told, sorted(told))
        self.assertEqual((told[0], told[-1]), ((-2, 0, 0, 0), (2, 0, 0, 0)))

    def test_all_fours_of_size_one(self):
        self.assertEqual(ones(), sorted(four for four in SMALL if size(four) == 1))
        for one in ones():
            self.assertTrue(is_four(one))

    def test_products_of_ones_are_ones(self):
        told = ones()
        for one in told:
            self.assertEqual(sorted(product(one, other) for other in told), told)

    def test_a_changed_list_changes_nothing_later(self):
        first = ones()
        kept = list(first)
        first.append((4, 0, 0, 0))
        first[0] = (0, 0, 0, 0)
        self.assertEqual(ones(), kept)
        second = ones()
        ones().clear()
        self.assertEqual(second, kept)


class ProductOf(unittest.TestCase):
    def test_none_and_one(self):
        self.assertEqual(product_of([]), (2, 0, 0, 0))
        for four in FOURS:
            self.assertEqual(product_of([four]), four)

    def test_many_from_the_first_on(self):
        self.assertEqual(product_of([I, J]), K)
        self.assertEqual(product_of([J, I]), opposite(K))
        self.assertEqual(product_of([I, J, K]), opposite(ONE))
        self.assertEqual(product_of([K, J, I]), ONE)
        self.assertEqual(product_of([I, (0, 0, 0, 0), J]), (0, 0, 0, 0))
        for one, other, third in itertools.product(FEWER[::3], repeat=3):
            self.assertEqual(product_of([one, other, third]), product(product(one, other), third))

    def test_sixty_long_ones(self):
        fours = (LONG * 15)[:60]
        whole = 1
        for four in fours:
            whole *= size(four)
        told = product_of(fours)
        self.assertTrue(is_four(told))
        self.assertEqual(size(told), whole)
        self.assertEqual(told, product(product_of(fours[:30]), product_of(fours[30:])))

    def test_the_list_handed_in_is_unchanged(self):
        fours = [I, (1, 1, 1, 1), J, (3, 1, -1, 5)]
        kept = list(fours)
        told = product_of(fours)
        self.assertEqual(fours, kept)
        fours.reverse()
        self.assertEqual(product_of(kept), told)

    def test_the_same_is_told_again(self):
        asked = [(1, 3, -5, 7), J, (2, 4, 6, 8)]
        told = product_of(asked)
        product_of([(0, 0, 0, 0)])
        ones().reverse()
        self.assertEqual(product_of(asked), told)
        self.assertEqual(product_of([]), (2, 0, 0, 0))


if __name__ == "__main__":
    unittest.main()
