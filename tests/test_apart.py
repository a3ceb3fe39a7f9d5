import itertools
import unittest

from samples import FOURS, LONG, MIXED, NINES, NOUGHT, ONE, PRIMES, SMALL
from spaceturns.apart import moved_ones, taken_apart, whole_divisor
from spaceturns.errors import Divided, NoOrder, Nought, SpaceError
from spaceturns.fours import is_four, many_times, opposite
from spaceturns.primesize import chosen, of_size
from spaceturns.products import ones, other_signed, product, product_of, size

ONES = ones()
# The whole divisors of these are found by trying in the tests, so they are kept small.
TRIED = SMALL + MIXED + [many_times(four, number) for four in SMALL[::5] + MIXED for number in (2, -3, 4, 6, 35)]


def divides(number, four):
    return all(part % number == 0 for part in four) and is_four(tuple(part // number for part in four))


def primes_of(number):
    found = []
    for prime in PRIMES:
        while number % prime == 0:
            found.append(prime)
            number //= prime
    return found if number == 1 else None


def plain_product_of_primes(primes, step):
    """A plain four whose size is the product of the primes; step chooses which."""
    reached = ONES[step % 24]
    for place, prime in enumerate(primes):
        fours = of_size(prime)
        at = (step * 31 + place * 17) % len(fours)
        while whole_divisor(product(reached, fours[at])) > 1:
            at = (at + 1) % len(fours)
        reached = product(reached, fours[at])
    return reached


def orders_of(primes):
    return [list(order) for order in sorted(set(itertools.permutations(primes)))]


def shifted(telling, moved):
    """Another telling of the same four: ones put between the parts, each with its other-signed one."""
    e, parts = telling
    others = []
    for place, part in enumerate(parts):
        follows = moved[place + 1] if place + 1 < len(parts) else ONE
        others.append(product(product(moved[place], part), other_signed(follows)))
    return (product(e, other_signed(moved[0])) if parts else e, others)


class WholeDivisor(unittest.TestCase):
    def test_told_ones(self):
        self.assertEqual(whole_divisor((6, 6, 6, 6)), 6)
        self.assertEqual(whole_divisor((2, 2, 0, 0)), 1)
        self.assertEqual(whole_divisor((2, 0, 0, 0)), 1)
        self.assertEqual(whole_divisor((-4, 0, 0, 0)), 2)
        self.assertEqual(whole_divisor((2, 2, 2, 2)), 2)
        self.assertEqual(whole_divisor((4, 4, 0, 0)), 2)
        self.assertEqual(whole_divisor((0, 0, -3 * 2, 9 * 2)), 3)
        self.assertEqual(whole_divisor((3, -9, 15, 21)), 3)
        self.assertEqual(whole_divisor((12, 6, 6, 0)), 3)
        self.assertEqual(whole_divisor((12, -4, 20, 4)), 4)

    def test_by_trying(self):
        for four in TRIED:
            if four != NOUGHT:
                most = max(abs(part) for part in four)
                greatest = max(number for number in range(1, most + 1) if divides(number, four))
                self.assertEqual(whole_divisor(four), greatest, four)

    def test_great_ones(self):
        self.assertEqual(whole_divisor((NINES, NINES, -NINES, NINES)), NINES)
        self.assertEqual(whole_divisor((NINES - 1, 0, 0, 0)), (NINES - 1) // 2)
        self.assertEqual(whole_divisor((0, 0, 0, -2 * 10 ** 999)), 10 ** 999)
        for four in LONG:
            m = whole_divisor(four)
            self.assertTrue(divides(m, four))
            rest = tuple(part // m for part in four)
            self.assertEqual(whole_divisor(rest), 1)
            self.assertEqual(whole_divisor(many_times(four, 10 ** 30)), m * 10 ** 30)

    def test_plain_sizes_have_two_once_at_most(self):
        for four in FOURS:
            if four != NOUGHT and whole_divisor(four) == 1:
                self.assertNotEqual(size(four) % 4, 0)

    def test_nought(self):
        with self.assertRaises(SpaceError) as taken:
            whole_divisor(NOUGHT)
        self.assertIs(taken.exception.__class__, Nought)


class TakenApart(unittest.TestCase):
    def looked_through(self, four, order):
        kept = list(order)
        told = taken_apart(four, order)
        self.assertEqual(order, kept)
        self.assertIs(type(told), tuple)
        e, parts = told
        self.assertIs(type(parts), list)
        self.assertIn(e, ONES)
        self.assertTrue(all(is_four(part) for part in parts))
        self.assertEqual([size(part) for part in parts], order)
        self.assertEqual(product_of([e] + parts), four)
        return told

    def refused(self, four, order):
        kept = list(order)
        with self.assertRaises(SpaceError) as taken:
            taken_apart(four, order)
        self.assertEqual(order, kept)
        return taken.exception

    def no_order_at(self, four, order):
        error = self.refused(four, order)
        self.assertIs(error.__class__, NoOrder, (four, order))
        return error.at

    def test_no_primes(self):
        for one in ONES:
            self.assertEqual(taken_apart(one, []), (one, []))

    def test_one_prime(self):
        for prime in PRIMES:
            for four in of_size(prime)[:: 1 if prime < 30 else 37]:
                self.looked_through(four, [prime])

    def test_all_plain_fours_of_some_sizes(self):
        for n in (4, 6, 9, 10, 15, 18, 21, 27, 30, 42, 45, 50, 54, 66, 75, 81, 90):
            for four in of_size(n)[::7]:
                for order in orders_of(primes_of(n)):
                    if whole_divisor(four) == 1:
                        self.looked_through(four, order)
                    else:
                        self.assertEqual(self.refused(four, order).by, whole_divisor(four))

    def test_any_order(self):
        for step, primes in enumerate(([2, 3, 5, 7], [3, 3, 5, 97], [2, 11, 11, 11, 89], [7, 7, 13, 2, 5])):
            four = plain_product_of_primes(primes, step)
            for order in orders_of(primes):
                self.looked_through(four, order)

    def test_the_same_prime_many_times(self):
        for prime in (3, 5, 53, 97):
            four = plain_product_of_primes([prime] * 20, prime)
            self.looked_through(four, [prime] * 20)
            self.looked_through(product((2, 2, 0, 0), four), [prime] * 7 + [2] + [prime] * 13)

    def test_great_ones(self):
        primes = PRIMES + PRIMES[1:]
        four = plain_product_of_primes(primes, 5)
        for order in (primes, primes[::-1], sorted(primes), primes[1::2] + primes[::2]):
            self.looked_through(four, order)
        sixty = [97, 89, 3] * 20
        four = plain_product_of_primes(sixty, 8)
        self.looked_through(four, sixty)
        self.looked_through(four, sorted(sixty))

    def test_plain_fours_of_forty_figures(self):
        primes = [97] * 39 + [2]
        four = plain_product_of_primes(primes, 3)
        self.assertGreaterEqual(max(len(str(abs(part))) for part in four), 38)
        self.looked_through(four, primes)
        self.looked_through(four, primes[::-1])

    def test_nought_ahead_of_all_else(self):
        for order in ([], [2], [0], [1], [4, 4], [-3], [101], [3, 0], [NINES] * 60):
            self.assertIs(self.refused(NOUGHT, order).__class__, Nought)

    def test_no_prime_in_the_order(self):
        four = (2, 4, 0, 0)
        for number in (0, 1, -1, -2, -5, 4, 9, 25, 91, 95, 96, 98, 99, 100, 101, 103, 9409, NINES, -NINES):
            self.assertEqual(self.no_order_at(four, [number]), 0)
            self.assertEqual(self.no_order_at(four, [5, number]), 1)
            self.assertEqual(self.no_order_at(four, [2, 97, number, 5, number]), 2)
        # the product is the size, yet no primes stand there
        self.assertEqual(self.no_order_at(four, [-5, -1]), 0)
        self.assertEqual(self.no_order_at(four, [5, 1]), 1)
        self.assertEqual(self.no_order_at(ONE, [1]), 0)
        self.assertEqual(self.no_order_at((2, 4, 4, 0), [9]), 0)
        self.assertEqual(self.no_order_at((2, 20, 0, 0), [101]), 0)

    def test_another_product(self):
        four = plain_product_of_primes([3, 5, 5, 7], 1)
        self.assertEqual(self.no_order_at(four, []), 0)
        self.assertEqual(self.no_order_at(four, [3, 5, 7]), 3)
        self.assertEqual(self.no_order_at(four, [3, 5, 5, 7, 2]), 5)
        self.assertEqual(self.no_order_at(four, [3, 5, 5, 11]), 4)
        self.assertEqual(self.no_order_at(four, [3, 3, 5, 7]), 4)
        self.assertEqual(self.no_order_at(ONE, [2]), 1)
        self.assertEqual(self.no_order_at((2, 20, 0, 0), []), 0)
        self.assertEqual(self.no_order_at((2, 20, 0, 0), [97]), 1)
        self.assertEqual(self.no_order_at(LONG[0], [97] * 60), 60)

    def test_no_order_ahead_of_divided(self):
        self.assertEqual(self.no_order_at((6, 6, 6, 6), []), 0)
        self.assertEqual(self.no_order_at((6, 6, 6, 6), [2, 3, 3]), 3)
        self.assertEqual(self.no_order_at((6, 6, 6, 6), [2, 2, 9]), 2)
        self.assertEqual(self.no_order_at((6, 6, 6, 6), [6, 6]), 0)
        self.assertEqual(self.no_order_at((202, 0, 0, 0), [101, 101]), 0)
        self.assertEqual(self.no_order_at((202, 0, 0, 0), [97]), 1)

    def test_divided(self):
        for four, order, by in (
            ((6, 6, 6, 6), [2, 2, 3, 3], 6), ((6, 6, 6, 6), [3, 2, 3, 2], 6), ((4, 0, 0, 0), [2, 2], 2),
            ((2, 2, 2, 2), [2, 2], 2), ((4, 4, 0, 0), [2, 2, 2], 2), ((0, 0, -194, 0), [97, 97], 97),
            (many_times((3, 1, 1, 1), 10), [2, 2, 3, 5, 5], 10), ((2 * 97 ** 20, 0, 0, 0), [97] * 40, 97 ** 20),
        ):
            error = self.refused(four, order)
            self.assertIs(error.__class__, Divided)
            self.assertEqual(error.by, by)

    def test_lists_are_the_asker_s_own(self):
        order = [3, 5, 2, 7]
        four = plain_product_of_primes(order, 2)
        first = taken_apart(four, order)
        kept = (first[0], list(first[1]))
        second = taken_apart(four, order)
        order.reverse()
        order.append(4)
        self.assertEqual(first, kept)
        first[1].clear()
        self.assertEqual(second, kept)
        second[1][0] = NOUGHT
        self.assertEqual(taken_apart(four, [3, 5, 2, 7]), kept)
        empty = taken_apart(ONE, [])
        empty[1].append(NOUGHT)
        self.assertEqual(taken_apart(ONE, []), (ONE, []))

    def test_the_same_is_told_again(self):
        primes = [3, 5, 5, 11]
        four = plain_product_of_primes(primes, 4)
        first = [taken_apart(four, order) for order in orders_of(primes)]
        self.refused(NOUGHT, [])
        self.refused(four, [3])
        chosen(5, "left").clear()
        self.assertEqual([taken_apart(four, order) for order in reversed(orders_of(primes))], first[::-1])


class MovedOnes(unittest.TestCase):
    def looked_through(self, telling, other):
        kept = [(e, list(parts)) for e, parts in (telling, other)]
        told = moved_ones(telling, other)
        self.assertEqual([telling, other], kept)
        self.assertIs(type(told), list)
        self.assertEqual(len(told), len(telling[1]) + 1)
        self.assertTrue(all(one in ONES for one in told))
        self.assertEqual(product(other[0], told[0]), telling[0])
        for k, part in enumerate(telling[1]):
            self.assertEqual(product(other[1][k], told[k + 1]), product(told[k], part))
        return told

    def test_between_tellings_of_one_four(self):
        for step, primes in enumerate(([], [2], [3], [97], [2, 3, 5], [5, 5, 5, 5], [3, 2, 7, 3, 89], [53] * 12)):
            four = plain_product_of_primes(primes, step)
            for order in orders_of(primes)[:20] if len(primes) < 8 else [primes]:
                telling = taken_apart(four, order)
                for turn in range(6):
                    moved = [ONES[(turn * 5 + place * 7 + 1) % 24] for place in range(len(order))] + [ONE]
                    other = shifted(telling, moved)
                    self.assertEqual(product_of([other[0]] + other[1]), four)
                    self.assertEqual(self.looked_through(telling, other), moved)
                    self.assertEqual(self.looked_through(other, telling), [other_signed(one) for one in moved])

    def test_to_itself(self):
        for primes in ([], [2], [3, 5, 7], [97] * 39):
            telling = taken_apart(plain_product_of_primes(primes, 6), primes)
            self.assertEqual(moved_ones(telling, telling), [ONE] * (len(primes) + 1))

    def test_tellings_found_elsewhere(self):
        # All ways of two parts, found by trying, lead over to one another.
        four = plain_product_of_primes([3, 5], 9)
        ways = [(ONE, [one, other]) for one in of_size(3) for other in of_size(5) if product(one, other) == four]
        self.assertEqual(len(ways), 24)
        for telling in ways + [taken_apart(four, [3, 5])]:
            for other in ways:
                self.assertEqual(self.looked_through(telling, other)[-1], ONE)

    def test_the_last_one_may_be_another(self):
        part = (2, 4, 0, 0)
        for one in ONES:
            self.assertEqual(self.looked_through((ONE, [product(part, one)]), (ONE, [part])), [ONE, one])
            self.assertEqual(self.looked_through((one, []), (ONE, [])), [one])
            self.assertEqual(self.looked_through((ONE, []), (one, [])), [other_signed(one)])

    def test_any_fours(self):
        # Neither ones ahead nor parts of prime size.
        for four in MIXED + LONG:
            for one in ONES[::5]:
                telling = (product(four, one), [product(other_signed(one), four), four])
                self.assertEqual(self.looked_through(telling, (four, [four, four])), [one, ONE, ONE])

    def test_unlike_many_parts(self):
        part = (2, 4, 0, 0)
        self.assertIsNone(moved_ones((ONE, []), (ONE, [part])))
        self.assertIsNone(moved_ones((ONE, [part]), (ONE, [])))
        self.assertIsNone(moved_ones((ONE, [part]), (ONE, [part, ONE])))
        self.assertIsNone(moved_ones((ONE, [part, ONE, part]), (ONE, [part, ONE])))
        self.assertIsNone(moved_ones((NOUGHT, []), (NOUGHT, [NOUGHT])))

    def test_not_there(self):
        one, other = (2, 4, 0, 0), (4, 2, 0, 0)
        self.assertIsNone(moved_ones((ONE, [one]), (ONE, [other])))
        self.assertIsNone(moved_ones((one, []), (other, [])))
        self.assertIsNone(moved_ones((ONE, [one, one]), (ONE, [one, other])))
        self.assertIsNone(moved_ones((ONE, [one, one]), (ONE, [other, one])))
        # it is there on the other side alone
        half = (1, 1, 1, 1)
        self.assertIsNone(moved_ones((ONE, [product(half, one)]), (ONE, [one])))
        self.assertIsNone(moved_ones((product(half, one), []), (one, [])))

    def test_there_but_no_ones(self):
        double = (4, 0, 0, 0)
        self.assertIsNone(moved_ones((double, []), (ONE, [])))
        self.assertIsNone(moved_ones((ONE, [double]), (ONE, [ONE])))
        self.assertIsNone(moved_ones((double, [ONE]), (ONE, [double])))
        self.assertIsNone(moved_ones((ONE, [double, ONE]), (ONE, [ONE, double])))

    def test_noughts(self):
        for e, f, part, other in itertools.product((NOUGHT, ONE), repeat=4):
            told = moved_ones((e, [part]), (f, [other]))
            if NOUGHT in (e, f, part, other):
                self.assertIsNone(told, (e, f, part, other))
            else:
                self.assertEqual(told, [ONE, ONE])
        self.assertIsNone(moved_ones((NOUGHT, []), (NOUGHT, [])))
        self.assertIsNone(moved_ones((ONE, [ONE, NOUGHT]), (ONE, [ONE, NOUGHT])))
        self.assertIsNone(moved_ones((ONE, [ONE, ONE]), (ONE, [NOUGHT, ONE])))

    def test_lists_are_the_asker_s_own(self):
        telling = taken_apart(plain_product_of_primes([3, 5, 7], 1), [3, 5, 7])
        other = shifted(telling, [ONES[3], ONES[8], ONES[15], ONE])
        first = moved_ones(telling, other)
        kept, asked, answered = list(first), (telling[0], list(telling[1])), (other[0], list(other[1]))
        second = moved_ones(telling, other)
        first.clear()
        telling[1].reverse()
        other[1].pop()
        self.assertEqual(second, kept)
        second[0] = NOUGHT
        self.assertIsNone(moved_ones(telling, other))
        self.assertEqual(moved_ones(asked, answered), kept)

    def test_opposite_signs(self):
        telling = taken_apart(plain_product_of_primes([2, 3, 11], 7), [2, 3, 11])
        other = (opposite(telling[0]), [telling[1][0], opposite(telling[1][1]), telling[1][2]])
        self.assertEqual(moved_ones(telling, other), [opposite(ONE), opposite(ONE), ONE, ONE])


class Primes(unittest.TestCase):
    def test_each_prime_to_97_and_no_other(self):
        for number in range(-10, 300):
            with self.assertRaises(NoOrder) as taken:
                taken_apart(ONE, [number, 0])
            self.assertEqual(taken.exception.at, 1 if number in PRIMES else 0, number)


if __name__ == "__main__":
    unittest.main()
