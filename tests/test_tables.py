import itertools
import math
import unittest
from fractions import Fraction

from samples import GREAT, MORE_ROWS, NINES, ROWS, SPOTS, upright_one
from spaceturns.errors import NoTurn, Nought, SpaceError
from spaceturns.products import plain_product
from spaceturns.tables import behind, lowest, number_of, place_by, table_fault, table_of

SAME = (1, ((1, 0, 0), (0, 1, 0), (0, 0, 1)))
QUARTER = (1, ((0, -1, 0), (1, 0, 0), (0, 0, 1)))
# Tables that are no turn's, in lowest terms and not.
ODD_TABLES = [
    (1, ((0, 0, 0), (0, 0, 0), (0, 0, 0))),
    (6, ((0, 0, 0), (0, 0, 0), (0, 0, 0))),
    (4, ((2, -4, 6), (8, 10, -12), (14, 16, 18))),
    (7, ((1, 2, 3), (-4, 5, 6), (7, 8, -9))),
    (GREAT, ((GREAT, 0, -GREAT), (1, 10 ** 199, 2), (-3, NINES, GREAT - 2))),
]
# The rows of three whole numbers whose squares come to 9, and all tables of them with n 3.
NINE_ROWS = [row for row in itertools.product(range(-3, 4), repeat=3) if sum(part * part for part in row) == 9]


def fractions_of(table):
    n, rows = table
    return [[Fraction(number, n) for number in row] for row in rows]


def brought(fractions, spot):
    return [sum(part * number for part, number in zip(row, spot)) for row in fractions]


def common(table):
    n, rows = table
    return math.gcd(n, *rows[0], *rows[1], *rows[2])


def many(table, number):
    n, rows = table
    return (n * number, tuple(tuple(part * number for part in row) for row in rows))


def over(table):
    n, rows = table
    return (n, tuple(tuple(-part for part in row) for row in rows))


def determinant(rows):
    signs = {(0, 1, 2): 1, (1, 2, 0): 1, (2, 0, 1): 1, (0, 2, 1): -1, (1, 0, 2): -1, (2, 1, 0): -1}
    return sum(sign * rows[0][i] * rows[1][j] * rows[2][k] for (i, j, k), sign in signs.items())


def fault_by_words(table):
    n, rows = table
    for i, j in ((0, 0), (0, 1), (0, 2), (1, 1), (1, 2), (2, 2)):
        added = sum(rows[i][place] * rows[j][place] for place in range(3))
        if added != (n * n if i == j else 0):
            return ("rows", i, j)
    return ("over",) if determinant(rows) < 0 else None


def is_table(thing):
    n, rows = thing
    kinds = [type(thing), type(rows)] + [type(row) for row in rows]
    numbers = [type(part) for part in (n,) + rows[0] + rows[1] + rows[2]]
    return kinds == [tuple] * 5 and numbers == [int] * 10 and n >= 1


TABLES = [table_of(row) for row in ROWS[::9] + MORE_ROWS]
MANY_TABLES = TABLES + [over(table) for table in TABLES[::3]] + ODD_TABLES


class Lowest(unittest.TestCase):
    def test_told_ones(self):
        shorter = (2, ((1, -2, 3), (4, 5, -6), (7, 8, 9)))
        self.assertEqual(lowest((4, ((2, -4, 6), (8, 10, -12), (14, 16, 18)))), shorter)
        self.assertEqual(lowest((6, ((6, 0, 0), (0, 6, 0), (0, 0, 6)))), SAME)
        self.assertEqual(lowest((6, ((0, 0, 0), (0, 0, 0), (0, 0, 0)))), (1, ((0, 0, 0), (0, 0, 0), (0, 0, 0))))
        self.assertEqual(lowest((2, ((4, 4, 4), (4, 4, 4), (4, 4, 3)))), (2, ((4, 4, 4), (4, 4, 4), (4, 4, 3))))
        self.assertEqual(lowest((3, ((-4, 4, 4), (4, 4, 4), (4, 4, 4))))[0], 3)

    def test_every_place_counts(self):
        for place in range(9):
            numbers = [6] * 9
            numbers[place] = -3
            rows = (tuple(numbers[:3]), tuple(numbers[3:6]), tuple(numbers[6:]))
            shorter = tuple(tuple(number // 3 for number in row) for row in rows)
            self.assertEqual(lowest((12, rows)), (4, shorter))

    def test_the_same_fractions(self):
        for table in MANY_TABLES:
            for number in (1, 2, 35, NINES, 10 ** 150):
                told = lowest(many(table, number))
                self.assertTrue(is_table(told))
                self.assertEqual(common(told), 1)
                self.assertEqual(fractions_of(told), fractions_of(table))
                self.assertEqual(lowest(told), told)


class PlaceBy(unittest.TestCase):
    def test_told_ones(self):
        self.assertEqual(place_by(QUARTER, (1, 0, 0)), (1, (0, 1, 0)))
        self.assertEqual(place_by(QUARTER, (3, 4, 5)), (1, (-4, 3, 5)))
        self.assertEqual(place_by((4, ((2, 0, 0), (0, 2, 0), (0, 0, 2))), (3, 4, 6)), (2, (3, 4, 6)))
        self.assertEqual(place_by((4, ((2, 0, 0), (0, 2, 0), (0, 0, 2))), (8, -4, 6)), (1, (4, -2, 3)))
        self.assertEqual(place_by((7, ((1, 2, 3), (-4, 5, 6), (7, 8, -9))), (1, 1, 1)), (7, (6, 7, 6)))
        self.assertEqual(place_by((7, ((1, 2, 3), (-4, 5, 6), (7, 8, -9))), (0, 0, 0)), (1, (0, 0, 0)))

    def test_row_by_row(self):
        for table in MANY_TABLES:
            for spot in SPOTS:
                told = place_by(table, spot)
                n, reached = told
                self.assertEqual([type(told), type(reached), type(n)], [tuple, tuple, int])
                self.assertEqual([type(part) for part in reached], [int] * 3)
                self.assertGreaterEqual(n, 1)
                self.assertEqual(math.gcd(n, *reached), 1)
                self.assertEqual([Fraction(part, n) for part in reached], brought(fractions_of(table), spot))

    def test_lowest_terms_or_not(self):
        for table in MANY_TABLES:
            for spot in SPOTS[:8]:
                self.assertEqual(place_by(many(table, 30), spot), place_by(table, spot))


class TableOf(unittest.TestCase):
    def test_told_ones(self):
        self.assertEqual(table_of((1, 0, 0, 1)), QUARTER)
        self.assertEqual(table_of((1, 0, 0, 0)), SAME)
        self.assertEqual(table_of((1, 1, 1, 1)), (1, ((0, 0, 1), (1, 0, 0), (0, 1, 0))))
        self.assertEqual(table_of((0, 1, 0, 0)), (1, ((1, 0, 0), (0, -1, 0), (0, 0, -1))))
        self.assertEqual(table_of((2, 1, 0, 0)), (5, ((5, 0, 0), (0, 3, -4), (0, 4, 3))))
        self.assertEqual(table_of((2, 0, 1, 0)), (5, ((3, 0, 4), (0, 5, 0), (-4, 0, 3))))
        self.assertEqual(table_of((1, 1, 1, 0)), (3, ((1, 2, 2), (2, 1, -2), (-2, 2, -1))))

    def test_by_the_plain_product(self):
        for row in ROWS + MORE_ROWS:
            a, b, c, d = row
            table = table_of(row)
            self.assertTrue(is_table(table))
            self.assertEqual(common(table), 1)
            for spot in SPOTS:
                moved = plain_product(plain_product(row, (0,) + spot), (a, -b, -c, -d))
                self.assertEqual(moved[0], 0)
                fractions = [Fraction(part, a * a + b * b + c * c + d * d) for part in moved[1:]]
                self.assertEqual(fractions, brought(fractions_of(table), spot))

    def test_multiples_make_the_same_turn(self):
        for row in ROWS + MORE_ROWS:
            for number in (-1, 2, 6, -15, 10 ** 30):
                self.assertEqual(table_of(tuple(part * number for part in row)), table_of(row))

    def test_what_was_told_is_handed_in_again(self):
        row = tuple(10 ** 999 + part for part in (1, 3, 7, 9))
        self.assertIsNone(table_fault(table_of(row)))
        self.assertEqual(number_of(table_of(row)), upright_one(row))

    def test_noughts(self):
        with self.assertRaises(SpaceError) as taken:
            table_of((0, 0, 0, 0))
        self.assertIs(taken.exception.__class__, Nought)


class TableFault(unittest.TestCase):
    def test_each_pair_of_rows(self):
        told = [
            (((2, 0, 0), (0, 1, 0), (0, 0, 1)), ("rows", 0, 0)),
            (((0, 0, 0), (0, 1, 0), (0, 0, 1)), ("rows", 0, 0)),
            (((1, 0, 0), (1, 0, 0), (0, 0, 1)), ("rows", 0, 1)),
            (((1, 0, 0), (0, 1, 0), (1, 0, 0)), ("rows", 0, 2)),
            (((1, 0, 0), (0, 2, 0), (0, 0, 1)), ("rows", 1, 1)),
            (((1, 0, 0), (0, 1, 0), (0, 1, 0)), ("rows", 1, 2)),
            (((1, 0, 0), (0, 1, 0), (0, 0, 2)), ("rows", 2, 2)),
            (((1, 0, 0), (0, 1, 0), (0, 0, -1)), ("over",)),
            (((0, 1, 0), (1, 0, 0), (0, 0, 1)), ("over",)),
            (((1, 0, 0), (0, 1, 0), (0, 0, 1)), None),
        ]
        for rows, fault in told:
            self.assertEqual(table_fault((1, rows)), fault)
            self.assertEqual(table_fault(many((1, rows), 10 ** 100)), fault)

    def test_the_first_of_several(self):
        self.assertEqual(table_fault((1, ((1, 1, 0), (1, 1, 0), (1, 1, 0)))), ("rows", 0, 0))
        self.assertEqual(table_fault((1, ((1, 0, 0), (1, 1, 0), (1, 1, 0)))), ("rows", 0, 1))
        self.assertEqual(table_fault((1, ((1, 0, 0), (0, 2, 0), (1, 1, 0)))), ("rows", 0, 2))
        self.assertEqual(table_fault((1, ((1, 0, 0), (0, 2, 0), (0, 2, 0)))), ("rows", 1, 1))
        self.assertEqual(table_fault((1, ((1, 0, 0), (0, 1, 0), (0, 1, 1)))), ("rows", 1, 2))
        self.assertEqual(table_fault((1, ((1, 0, 0), (0, 1, 0), (0, 0, -2)))), ("rows", 2, 2))
        self.assertEqual(table_fault((2, ((1, 0, 0), (0, 1, 0), (0, 0, -1)))), ("rows", 0, 0))

    def test_all_small_tables(self):
        found = {}
        for numbers in itertools.product((-1, 0, 1), repeat=9):
            table = (1, (numbers[:3], numbers[3:6], numbers[6:]))
            fault = table_fault(table)
            self.assertEqual(fault, fault_by_words(table))
            found[fault] = found.get(fault, 0) + 1
        self.assertEqual((found[None], found[("over",)]), (24, 24))

    def test_all_tables_of_thirds(self):
        for rows in itertools.product(NINE_ROWS, repeat=3):
            self.assertEqual(table_fault((3, rows)), fault_by_words((3, rows)))

    def test_turns_and_turned_over(self):
        for row in ROWS + MORE_ROWS:
            table = table_of(row)
            for number in (1, 2, 9, NINES):
                self.assertIsNone(table_fault(many(table, number)))
                self.assertEqual(table_fault(over(many(table, number))), ("over",))

    def test_great_tables_a_little_wrong(self):
        for row in MORE_ROWS:
            n, rows = table_of(row)
            for i, j in itertools.product(range(3), repeat=2):
                changed = [list(numbers) for numbers in rows]
                changed[i][j] += 1
                table = (n, tuple(tuple(numbers) for numbers in changed))
                self.assertEqual(table_fault(table), fault_by_words(table))
                self.assertIsNotNone(table_fault(table))
            self.assertEqual(table_fault((n + 1, rows)), ("rows", 0, 0))

    def test_odd_tables(self):
        for table in ODD_TABLES:
            self.assertEqual(table_fault(table), fault_by_words(table))


class NumberOf(unittest.TestCase):
    def refused(self, table):
        with self.assertRaises(SpaceError) as taken:
            number_of(table)
        self.assertIs(taken.exception.__class__, NoTurn)
        return taken.exception.why

    def test_told_ones(self):
        self.assertEqual(number_of(SAME), (1, 0, 0, 0))
        self.assertEqual(number_of(QUARTER), (1, 0, 0, 1))
        self.assertEqual(number_of((3, ((1, 2, 2), (2, 1, -2), (-2, 2, -1)))), (1, 1, 1, 0))
        self.assertEqual(number_of(table_of((0, -2, 4, 6))), (0, 1, -2, -3))

    def test_back_from_the_table(self):
        for row in list(itertools.product(range(-3, 4), repeat=4)) + MORE_ROWS:
            if any(row):
                told = number_of(table_of(row))
                self.assertIs(type(told), tuple)
                self.assertEqual(told, upright_one(row))

    def test_lowest_terms_or_not(self):
        for row in ROWS[::5] + MORE_ROWS:
            for number in (2, 3, 4, 60, 10 ** 40 + 1):
                self.assertEqual(number_of(many(table_of(row), number)), upright_one(row))

    def test_just_two_rows_of_opposite_signs(self):
        found = {}
        for row in itertools.product(range(-3, 4), repeat=4):
            if any(row) and math.gcd(*row) == 1:
                found.setdefault(table_of(row), []).append(row)
        for table, rows in found.items():
            self.assertEqual(len(rows), 2)
            self.assertEqual(rows[0], tuple(-part for part in rows[1]))
            self.assertIn(number_of(table), rows)

    def test_all_tables_of_thirds(self):
        turns = 0
        for rows in itertools.product(NINE_ROWS, repeat=3):
            table = (3, rows)
            fault = fault_by_words(table)
            if fault is None:
                turns += 1
                self.assertEqual(table_of(number_of(table)), lowest(table))
        self.assertGreater(turns, 24)

    def test_tables_with_a_fault(self):
        for rows in itertools.product(NINE_ROWS[::4], repeat=3):
            fault = fault_by_words((3, rows))
            if fault is not None:
                self.assertEqual(self.refused((3, rows)), fault)
        for table in ODD_TABLES + [over(table) for table in TABLES]:
            self.assertEqual(self.refused(table), fault_by_words(table))
            self.assertEqual(self.refused(many(table, 6)), fault_by_words(table))


class Behind(unittest.TestCase):
    def test_told_ones(self):
        flipped = table_of((0, 1, 0, 0))
        self.assertEqual(behind(QUARTER, flipped), (1, ((0, -1, 0), (-1, 0, 0), (0, 0, -1))))
        self.assertEqual(behind(flipped, QUARTER), (1, ((0, 1, 0), (1, 0, 0), (0, 0, -1))))
        halves = (2, ((1, 0, 0), (0, 1, 0), (0, 0, 1)))
        self.assertEqual(behind(halves, (1, ((2, 0, 0), (0, 4, 0), (0, 0, 6)))), (1, ((1, 0, 0), (0, 2, 0), (0, 0, 3))))
        self.assertEqual(behind(SAME, QUARTER), QUARTER)
        self.assertEqual(behind(QUARTER, SAME), QUARTER)

    def test_the_second_brings_what_the_first_makes(self):
        tables = MANY_TABLES[::4] + ODD_TABLES
        for first, second in itertools.product(tables, repeat=2):
            told = behind(first, second)
            self.assertTrue(is_table(told))
            self.assertEqual(common(told), 1)
            for spot in SPOTS[1:5]:
                twice = brought(fractions_of(second), brought(fractions_of(first), spot))
                self.assertEqual(brought(fractions_of(told), spot), twice)

    def test_lowest_terms_or_not(self):
        for first, second in zip(MANY_TABLES, reversed(MANY_TABLES)):
            self.assertEqual(behind(many(first, 6), many(second, 35)), behind(first, second))

    def test_a_turn_behind_a_turn_is_that_of_the_product(self):
        for first, second in itertools.product(ROWS[::8] + MORE_ROWS, repeat=2):
            self.assertEqual(behind(table_of(first), table_of(second)), table_of(plain_product(second, first)))

    def test_two_that_are_turned_over(self):
        for first, second in itertools.product(TABLES[::5], repeat=2):
            self.assertEqual(behind(over(first), over(second)), behind(first, second))
            self.assertEqual(table_fault(behind(first, over(second))), ("over",))


if __name__ == "__main__":
    unittest.main()
