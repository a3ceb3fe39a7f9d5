import itertools
import unittest

from samples import FEWER, FOURS, NINES
from spaceturns.fours import is_four, less, many_times, opposite, total

NO_FOURS = [
    # of other lengths
    (), (2,), (2, 0, 0), (1, 1, 1), (2, 0, 0, 0, 0), (1, 1, 1, 1, 1),
    # mixed evenness, at each place
    (1, 0, 0, 0), (0, 1, 0, 0), (0, 0, 1, 0), (0, 0, 0, 1), (0, 1, 1, 1), (1, 1, 1, 2), (-1, 1, 0, 1),
    (NINES, NINES, NINES, NINES - 1),
    # parts that are no whole numbers
    (True, True, True, True), (False, False, False, False), (2, 0, 0, False), (1, True, 1, 1), (True, 1, 1, 1),
    ("2", "0", "0", "0"), (2, 0, 0, "0"), (2, None, 0, 0), (None, None, None, None), (2, 0, 0, (0,)), (1, 1, [1], 1),
    (2, {}, 0, 0), (b"2", 0, 0, 0), ((2, 0, 0, 0), 0, 0, 0), (object(), 0, 0, 0),
    # no tuples at all
    [2, 0, 0, 0], [1, 1, 1, 1], {2: 0, 4: 0, 6: 0, 8: 0}, {2, 4, 6, 8}, frozenset((2, 4, 6, 8)), range(0, 8, 2),
    "2000", "1 0 0 0", b"2000", "", None, True, False, 0, 2, 2000, object(), int, tuple, len, iter((2, 0, 0, 0)),
]


class IsFour(unittest.TestCase):
    def test_fours(self):
        for four in FOURS:
            self.assertIs(is_four(four), True, four)

    def test_no_fours(self):
        for thing in NO_FOURS:
            self.assertIs(is_four(thing), False, thing)

    def test_evenness_of_all_small_parts(self):
        for parts in itertools.product((-3, -2, -1, 0, 1), repeat=4):
            alike = len({part % 2 for part in parts}) == 1
            self.assertIs(is_four(parts), alike, parts)

    def test_longer_than_what_is_handed_in_mostly(self):
        self.assertIs(is_four((10 ** 1000, 0, -10 ** 999, 2)), True)
        self.assertIs(is_four((10 ** 1000 + 1, 0, 2, 2)), False)


class Sums(unittest.TestCase):
    def test_told_ones(self):
        self.assertEqual(total((2, -4, 0, 6), (1, -3, 5, 7)), (3, -7, 5, 13))
        self.assertEqual(less((2, -4, 0, 6), (1, -3, 5, 7)), (1, -1, -5, -1))
        self.assertEqual(less((1, -3, 5, 7), (2, -4, 0, 6)), (-1, 1, 5, 1))
        self.assertEqual(opposite((1, -3, 5, 7)), (-1, 3, -5, -7))
        self.assertEqual(opposite((0, 0, 0, 0)), (0, 0, 0, 0))
        self.assertEqual(many_times((1, -3, 5, 7), 3), (3, -9, 15, 21))
        self.assertEqual(many_times((1, -3, 5, 7), -2), (-2, 6, -10, -14))
        self.assertEqual(many_times((1, -3, 5, 7), 1), (1, -3, 5, 7))
        self.assertEqual(many_times((1, -3, 5, 7), 0), (0, 0, 0, 0))

    def test_forty_figures(self):
        one = (NINES, -NINES, 1, 3)
        other = (1, -1, NINES, -NINES)
        self.assertEqual(total(one, other), (10 ** 40, -10 ** 40, 10 ** 40, 3 - NINES))
        self.assertEqual(less(one, other), (NINES - 1, 1 - NINES, 1 - NINES, 3 + NINES))
        self.assertEqual(opposite(one), (-NINES, NINES, -1, -3))
        self.assertEqual(many_times(one, NINES), (NINES * NINES, -NINES * NINES, NINES, 3 * NINES))
        self.assertEqual(many_times(one, -NINES), (-NINES * NINES, NINES * NINES, -NINES, -3 * NINES))

    def test_part_by_part(self):
        for one in FEWER:
            for other in FEWER:
                told, rest = total(one, other), less(one, other)
                self.assertTrue(is_four(told) and is_four(rest))
                for place in range(4):
                    self.assertEqual(told[place], one[place] + other[place])
                    self.assertEqual(rest[place], one[place] - other[place])

    def test_opposite_and_multiples(self):
        for one in FOURS:
            self.assertTrue(is_four(opposite(one)))
            self.assertEqual(total(one, opposite(one)), (0, 0, 0, 0))
            self.assertEqual(many_times(one, -1), opposite(one))
            self.assertEqual(many_times(one, 2), total(one, one))
            self.assertEqual(many_times(one, 3), total(one, total(one, one)))
            self.assertTrue(is_four(many_times(one, 5)))


if __name__ == "__main__":
    unittest.main()
