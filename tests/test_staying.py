import itertools
import math
import unittest

from samples import AXES, GREAT, MORE_ROWS, NINES, ROWS, SPOTS, upright_one
from spaceturns.deeds import HalfTurn, Turn
from spaceturns.products import plain_product
from spaceturns.staying import base_of, corner_number, stays, sums_in

SMALL_TURNS = [Turn(row) for row in ROWS[::3]] + [Turn((3, 1, 1, 0)), Turn((1, 2, 3, 1)), Turn((0, 3, 1, 5))]
BASES = [
    ((1, 0, 0), (0, 1, 0), (0, 0, 1)),
    ((2, 1, 4), (0, 3, 2), (0, 0, 5)),
    ((1, 2, 0), (0, 5, 0), (0, 0, 1)),
    ((7, 0, 0), (0, 1, 10), (0, 0, 11)),
    ((GREAT, 10 ** 150, 3), (0, 10 ** 151, NINES), (0, 0, 10 ** 199)),
]


def great_row(step):
    """A row whose corner number has small primes many times."""
    reached = (1, 0, 0, 0)
    for place in range(60):
        reached = plain_product(reached, ((1, 1, 1, 0), (2, 0, 0, 1), (1, 2, 1, 1), (2, 0, 0, 1))[place * step % 4])
    return reached


GREAT_TURNS = [Turn(row) for row in MORE_ROWS] + [Turn(great_row(step)) for step in (1, 2, 3)] + [
    Turn((2 * 5 ** 60, 0, 0, 5 ** 60 + 2)), Turn(tuple(10 ** 480 + part for part in (1, 3, 7, 9)))]


def added(base, times):
    return tuple(sum(base[row][place] * times[row] for row in range(3)) for place in range(3))


def is_base(base):
    (a, b, c), (zero, d, e), (nought, none, f) = base
    if [type(base)] + [type(spot) for spot in base] != [tuple] * 4:
        return False
    return (zero, nought, none) == (0, 0, 0) and min(a, d, f) >= 1 and 0 <= b < d and 0 <= c < f and 0 <= e < f


class Stays(unittest.TestCase):
    def test_told_ones(self):
        turn = Turn((2, 0, 0, 1))
        self.assertIs(stays(turn, (0, 0, 1)), True)
        self.assertIs(stays(turn, (5, 0, 0)), True)
        self.assertIs(stays(turn, (1, 2, 0)), True)
        self.assertIs(stays(turn, (2, 1, 0)), False)
        self.assertIs(stays(turn, (1, 0, 0)), False)
        self.assertIs(stays(turn, (0, 0, 0)), True)

    def test_by_the_place(self):
        for turn, spot in itertools.product(SMALL_TURNS + GREAT_TURNS, SPOTS):
            self.assertEqual(stays(turn, spot), turn.place(spot)[0] == 1)
            n, rows = turn.table()
            divided = [sum(part * number for part, number in zip(row, spot)) % n for row in rows]
            self.assertIs(stays(turn, spot), divided == [0, 0, 0])

    def test_great_spots(self):
        for turn in SMALL_TURNS + GREAT_TURNS:
            n = corner_number(turn)
            self.assertIs(stays(turn, (n, 0, -n)), True)
            if n < 10 ** 150:
                self.assertIs(stays(turn, (0, n * 10 ** 40, n)), True)
            self.assertEqual(stays(turn, (n + 1, 0, 0)), stays(turn, (1, 0, 0)))


class CornerNumber(unittest.TestCase):
    def test_told_ones(self):
        self.assertEqual(corner_number(Turn((1, 0, 0, 0))), 1)
        self.assertEqual(corner_number(Turn((1, 0, 0, 1))), 1)
        self.assertEqual(corner_number(Turn((1, 1, 1, 1))), 1)
        self.assertEqual(corner_number(Turn((1, 1, 1, 0))), 3)
        self.assertEqual(corner_number(Turn((3, 1, 1, 1))), 3)
        self.assertEqual(corner_number(Turn((6, 3, 0, 0))), 5)

    def test_squares_without_twos(self):
        for row in list(itertools.product(range(-3, 4), repeat=4)) + MORE_ROWS:
            if any(row):
                squares = sum(part * part for part in upright_one(row))
                while squares % 2 == 0:
                    squares //= 2
                self.assertEqual(corner_number(Turn(row)), squares)
                self.assertEqual(corner_number(Turn(row).back()), squares)
                self.assertEqual(Turn(row).table()[0], squares)


class BaseOf(unittest.TestCase):
    def test_told_ones(self):
        self.assertEqual(base_of(Turn((1, 0, 0, 1))), ((1, 0, 0), (0, 1, 0), (0, 0, 1)))
        self.assertEqual(base_of(Turn((2, 0, 0, 1))), ((1, 2, 0), (0, 5, 0), (0, 0, 1)))
        self.assertEqual(base_of(Turn((2, 0, 0, -1))), ((1, 3, 0), (0, 5, 0), (0, 0, 1)))
        self.assertEqual(base_of(Turn((1, 1, 1, 1))), ((1, 0, 0), (0, 1, 0), (0, 0, 1)))
        self.assertEqual(base_of(Turn((2, 1, 0, 0))), ((1, 0, 0), (0, 1, 2), (0, 0, 5)))

    def test_the_whole_sums_are_just_the_spots_that_stay(self):
        for turn in SMALL_TURNS:
            base = base_of(turn)
            most = 4 if corner_number(turn) < 10 else 6
            for spot in itertools.product(range(-most, most + 1), repeat=3):
                times = sums_in(base, spot)
                self.assertEqual(times is not None, stays(turn, spot), (turn.told(), spot))

    def test_the_form(self):
        more = [Turn(row) for row in itertools.product(range(4), repeat=4) if any(row)]
        for turn in SMALL_TURNS + GREAT_TURNS + more:
            base = base_of(turn)
            self.assertTrue(is_base(base), (turn.told(), base))
            self.assertEqual(base[0][0] * base[1][1] * base[2][2], corner_number(turn))
            self.assertTrue(all(stays(turn, spot) for spot in base))
            self.assertEqual(base_of(turn), base)

    def test_places_of_the_base_make_the_base_of_the_back(self):
        for turn in SMALL_TURNS + GREAT_TURNS:
            back = turn.back()
            brought = [turn.place(spot) for spot in base_of(turn)]
            for n, spot in brought:
                self.assertEqual(n, 1)
                self.assertTrue(stays(back, spot))
                self.assertIsNotNone(sums_in(base_of(back), spot))

    def test_half_turns_are_turns(self):
        for axis in AXES:
            self.assertEqual(base_of(HalfTurn(axis)), base_of(Turn((0,) + axis)))
            self.assertEqual(corner_number(HalfTurn(axis)), corner_number(Turn((0,) + axis)))
            self.assertTrue(stays(HalfTurn(axis), axis))


class SumsIn(unittest.TestCase):
    def test_told_ones(self):
        base = ((2, 1, 4), (0, 3, 2), (0, 0, 5))
        self.assertEqual(sums_in(base, (2, 1, 4)), (1, 0, 0))
        self.assertEqual(sums_in(base, (-2, 5, 5)), (-1, 2, 1))
        self.assertEqual(sums_in(base, (0, 0, 0)), (0, 0, 0))
        self.assertIsNone(sums_in(base, (1, 1, 4)))
        self.assertIsNone(sums_in(base, (2, 2, 4)))
        self.assertIsNone(sums_in(base, (2, 1, 5)))
        self.assertIsNone(sums_in(base, (-1, 0, 0)))
        self.assertIsNone(sums_in(base, (0, 0, -4)))

    def test_all_sums_come_back(self):
        times = list(itertools.product(range(-2, 3), repeat=3)) + [(NINES, -NINES, 3), (0, 10 ** 45, -GREAT)]
        for base, told in itertools.product(BASES, times):
            got = sums_in(base, added(base, told))
            self.assertIs(type(got), tuple)
            self.assertEqual(got, told)

    def test_what_is_told_adds_up(self):
        for base, spot in itertools.product(BASES + [base_of(turn) for turn in SMALL_TURNS], SPOTS):
            times = sums_in(base, spot)
            if times is not None:
                self.assertEqual(added(base, times), spot)

    def test_spots_beside_the_sums(self):
        for base in BASES[1:]:
            (a, b, c), (zero, d, e), (nought, none, f) = base
            x, y, z = added(base, (3, -7, NINES))
            self.assertEqual(sums_in(base, (x, y, z + 1)) is None, f > 1)
            if d > 1:
                self.assertIsNone(sums_in(base, (x, y + 1, z)))
            if a > 1:
                self.assertIsNone(sums_in(base, (x - 1, y, z)))

    def test_as_many_classes_as_the_corner_number(self):
        for base in BASES[:4]:
            index = math.prod(base[place][place] for place in range(3))
            box = itertools.product(range(index), repeat=3)
            self.assertEqual(sum(sums_in(base, spot) is not None for spot in box) * index, index ** 3)


if __name__ == "__main__":
    unittest.main()
