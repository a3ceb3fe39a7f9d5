"""What is promised over the whole program, walked through from module to module."""

import importlib
import inspect
import itertools
import math
import os
import subprocess
import sys
import unittest

import spaceturns
from samples import AXES, FEWER, LONG, MIXED, MORE_ROWS, NOUGHT, ONE, PRIMES, ROWS, SIDES, SPOTS, upright_one
from spaceturns.apart import moved_ones, taken_apart, whole_divisor
from spaceturns.deeds import HalfTurn, Mirror, Turn, deed_read
from spaceturns.desk import Desk
from spaceturns.dividing import divided, exact
from spaceturns.errors import NoTurn, SpaceError
from spaceturns.fours import total
from spaceturns.greatest import greatest
from spaceturns.joinedways import joined_ways, one_way
from spaceturns.papers import greatest_paper, shows_base, shows_greatest, shows_pair, shows_telling
from spaceturns.primesize import chosen, mate_by, of_size
from spaceturns.products import ones, other_signed, plain_product, product, product_of, size
from spaceturns.squares import count_ways, falling_ways
from spaceturns.staying import base_of, corner_number, stays, sums_in
from spaceturns.tables import behind, lowest, number_of, place_by, table_fault, table_of
from spaceturns.texts import four_read, four_text
from spaceturns.turnings import half_turns, mirrors, turn_of

# The names of the interface, and how many arguments each takes by its place.
INTERFACE = {
    "fours": {"is_four": 1, "total": 2, "less": 2, "opposite": 1, "many_times": 2},
    "texts": {"four_text": 1, "four_read": 1},
    "products": {"plain_product": 2, "product": 2, "other_signed": 1, "size": 1, "ones": 0, "product_of": 1},
    "dividing": {"divided": 3, "exact": 3},
    "greatest": {"greatest": 3},
    "primesize": {"of_size": 1, "chosen": 2, "mate_by": 3},
    "apart": {"whole_divisor": 1, "taken_apart": 2, "moved_ones": 2},
    "squares": {"falling_ways": 1, "count_ways": 1},
    "joinedways": {"joined_ways": 1, "one_way": 1},
    "tables": {"lowest": 1, "place_by": 2, "table_of": 1, "table_fault": 1, "number_of": 1, "behind": 2},
    "deeds": {"Turn": 1, "HalfTurn": 1, "Mirror": 1, "deed_read": 1},
    "turnings": {"turn_of": 1, "half_turns": 1, "mirrors": 1},
    "staying": {"stays": 2, "corner_number": 1, "base_of": 1, "sums_in": 2},
    "papers": {"greatest_paper": 3, "shows_greatest": 4, "shows_telling": 3, "shows_pair": 4, "shows_base": 2},
    "desk": {"Desk": 0},
}

PLAIN = [four for n in (21, 30, 42, 66, 70, 78) for four in of_size(n)[::101] if whole_divisor(four) == 1]

LINES = ["keep b 1 2 3 4", "keep a 1/2 1/2 3/2 -1/2", "times c a b", "names", "divide left c a", "shared right a b",
         "apart a 3", "base c", "drop b", "names"]

# Answers of every module, each as a text, so that they can be told in another order and by another Python.
ASKED = [
    lambda: ones(), lambda: product_of(MIXED), lambda: divided(LONG[0], MIXED[1], "left"), lambda: of_size(12),
    lambda: greatest(LONG[0], LONG[3], "right"), lambda: chosen(13, "left"), lambda: chosen(13, "right"),
    lambda: taken_apart((1, -3, 5, 7), [7, 3]), lambda: taken_apart((10, 12, -14, 8), [3, 2, 7, 3]),
    lambda: moved_ones((ONE, [(2, 2, 0, 0)]), (ONE, [(2, 2, 0, 0)])), lambda: falling_ways(380), lambda: count_ways(99),
    lambda: one_way(2 ** 40 * 397 ** 9), lambda: joined_ways(MIXED), lambda: table_of((3, 1, 4, -1)),
    lambda: behind(table_of((3, 1, 4, -1)), table_of((1, 2, 0, 0))), lambda: Turn((2, 7, 1, 8)).told(),
    lambda: deed_read("mirror 4 -6 0").table(), lambda: [deed.axis() for deed in half_turns(Turn((2, 7, 1, 8)))],
    lambda: [deed.axis() for deed in mirrors(Turn((0, 7, 1, 8)))], lambda: base_of(Turn((2, 7, 1, 8))),
    lambda: greatest_paper(MIXED[0], MIXED[3], "left"), lambda: mate_by((0, 2, 0, 0), ONE, "left"),
    lambda: [desk.tell(line) for desk in [Desk()] for line in LINES],
]


def orders_of(number):
    primes = []
    for prime in PRIMES:
        while number % prime == 0:
            primes.append(prime)
            number //= prime
    return [list(order) for order in sorted(set(itertools.permutations(primes)))]


def shifted(telling, step):
    """Another telling of the same four by the same order, and the ones that were moved."""
    e, parts = telling
    moved = [ones()[(7 * place + step) % 24] for place in range(len(parts))] + [ONE]
    others = [product(product(moved[place], part), other_signed(moved[place + 1])) for place, part in enumerate(parts)]
    return (product(e, other_signed(moved[0])), others), moved


class Promise(unittest.TestCase):
    def test_sizes_multiply(self):
        for one, other in itertools.product(FEWER, repeat=2):
            self.assertEqual(size(product(one, other)), size(one) * size(other))
            self.assertEqual(four_read(four_text(product(one, ONE))), one)

    def test_division_and_greatest_divisors(self):
        for one, other, side in itertools.product(FEWER, FEWER, SIDES):
            paper = greatest_paper(one, other, side)
            self.assertTrue(shows_greatest(one, other, side, paper))
            self.assertEqual(paper[:3], greatest(one, other, side))
            if other != NOUGHT:
                self.assertLess(size(divided(one, other, side)[1]), size(other))
                self.assertIsNotNone(exact(other, paper[0], side))

    def test_numbers_of_prime_size(self):
        for prime in PRIMES[1:]:
            fours = of_size(prime)
            self.assertEqual(len(fours), 24 * (prime + 1))
            for side in SIDES:
                self.assertEqual(len(chosen(prime, side)), prime + 1)
        for side in SIDES:
            first, *others = chosen(97, side)
            self.assertTrue(all(mate_by(first, other, side) is None for other in others))

    def test_taken_apart_in_any_order(self):
        self.assertGreater(len(PLAIN), 20)
        for step, four in enumerate(PLAIN):
            for order in orders_of(size(four)):
                telling = taken_apart(four, order)
                self.assertTrue(shows_telling(four, order, telling))
                other, moved = shifted(telling, step)
                self.assertTrue(shows_telling(four, order, other))
                self.assertEqual(moved_ones(telling, other), moved)

    def test_four_squares(self):
        for n in range(401):
            orders = [order for way in falling_ways(n) for order in set(itertools.permutations(way))]
            self.assertEqual(sum(2 ** sum(part != 0 for part in order) for order in orders), count_ways(n))
            self.assertEqual(sum(part * part for part in one_way(n)), n)
            self.assertIn(tuple(sorted([abs(part) for part in one_way(n)], reverse=True)), falling_ways(n))

    def test_turns(self):
        for row in ROWS + MORE_ROWS:
            turn = Turn(row)
            self.assertEqual(turn_of(turn.table()).number(), upright_one(row))
            for word, pair in (("half", half_turns(turn)), ("mirror", mirrors(turn))):
                self.assertTrue(shows_pair(turn, word, pair[0].axis(), pair[1].axis()))
        for first, second in itertools.product(ROWS[::11] + MORE_ROWS, repeat=2):
            both = Turn(second).behind(Turn(first))
            self.assertEqual(both.table(), behind(table_of(first), table_of(second)))
            self.assertTrue(both.same(Turn(plain_product(second, first))))

    def test_two_mirrors_or_half_turns_make_a_turn(self):
        for first, second in itertools.product(AXES, repeat=2):
            for word, made in (("half", HalfTurn), ("mirror", Mirror)):
                turn = turn_of(behind(made(first).table(), made(second).table()))
                self.assertTrue(shows_pair(turn, word, first, second))
            with self.assertRaises(NoTurn) as taken:
                turn_of(behind(HalfTurn(first).table(), Mirror(second).table()))
            self.assertEqual(taken.exception.why, ("over",))

    def test_nine_fractions_that_are_no_turn(self):
        for numbers in itertools.product((-1, 0, 1), repeat=9):
            table = (1, (numbers[:3], numbers[3:6], numbers[6:]))
            fault = table_fault(table)
            if fault is None:
                self.assertEqual(table_of(number_of(table)), table)
            else:
                with self.assertRaises(NoTurn) as taken:
                    number_of(table)
                self.assertEqual(taken.exception.why, fault)

    def test_spots_that_stay_whole(self):
        for row in ROWS[::4] + MORE_ROWS:
            turn = Turn(row)
            base = base_of(turn)
            self.assertTrue(shows_base(turn, base))
            squares = sum(part * part for part in turn.number())
            while squares % 2 == 0:
                squares //= 2
            self.assertEqual([corner_number(turn), corner_number(turn.back())], [squares, squares])
            self.assertEqual(math.prod(base[place][place] for place in range(3)), squares)
            for spot in SPOTS + [(2, -3, 1), (1, 4, 4), (-1, 2, -2)]:
                self.assertEqual(sums_in(base, spot) is not None, stays(turn, spot))
                self.assertEqual(stays(turn, spot), place_by(turn.table(), spot)[0] == 1)

    def test_a_desk_tells_what_the_functions_tell(self):
        desk = Desk()
        for four in MIXED + LONG[:1]:
            desk.tell("keep it " + four_text(four))
            n, rows = lowest(table_of(four))
            self.assertEqual(desk.tell("turn it"), " ".join(str(part) for part in (n,) + rows[0] + rows[1] + rows[2]))
            self.assertEqual(desk.tell("size it"), str(size(four)))
            self.assertEqual(four_read(desk.tell("bar it it")), other_signed(four))
            self.assertEqual(total(four, four_read(desk.tell("show it"))), (2 * four[0], 0, 0, 0))


class TheSameAnswers(unittest.TestCase):
    def test_whatever_was_asked_ahead(self):
        told = [repr(asked()) for asked in ASKED]
        backwards = [repr(asked()) for asked in reversed(ASKED)]
        self.assertEqual(backwards[::-1], told)

    def test_whatever_is_done_to_what_was_told(self):
        for asked in ASKED:
            told = asked()
            kept = repr(told)
            for thing in [told] + (list(told) if isinstance(told, tuple) else []):
                if isinstance(thing, list):
                    thing.clear()
            self.assertEqual(repr(asked()), kept)

    def test_by_another_python_with_other_hashes(self):
        told = repr([asked() for asked in ASKED])
        here = os.path.dirname(os.path.abspath(__file__))
        for seed in ("1", "2"):
            around = dict(os.environ, PYTHONHASHSEED=seed, PYTHONDONTWRITEBYTECODE="1")
            around["PYTHONPATH"] = os.pathsep.join([here, os.path.dirname(here)])
            row = "import test_whole; print([asked() for asked in test_whole.ASKED])"
            answered = subprocess.check_output([sys.executable, "-c", row], env=around, text=True)
            self.assertEqual(answered.strip(), told)


class Interface(unittest.TestCase):
    def test_names_and_arguments(self):
        for module, names in INTERFACE.items():
            held = importlib.import_module("spaceturns." + module)
            for name, number in names.items():
                parameters = inspect.signature(getattr(held, name)).parameters.values()
                wanted = [parameter for parameter in parameters if parameter.default is inspect.Parameter.empty]
                self.assertEqual(len(wanted), number, (module, name))

    def test_methods(self):
        for made in (Turn, HalfTurn, Mirror):
            for name, number in {"table": 0, "place": 1, "back": 0, "same": 1, "told": 0}.items():
                self.assertEqual(len(inspect.signature(getattr(made, name)).parameters), number + 1)
        self.assertEqual(len(inspect.signature(Turn.number).parameters), 1)
        self.assertEqual(len(inspect.signature(Turn.behind).parameters), 2)
        self.assertEqual(len(inspect.signature(Desk.tell).parameters), 2)
        for made in (HalfTurn, Mirror):
            self.assertEqual(len(inspect.signature(made.axis).parameters), 1)

    def test_the_package_holds_its_own_files_alone(self):
        folder = os.path.dirname(os.path.abspath(spaceturns.__file__))
        held = sorted(name for name in os.listdir(folder) if name != "__pycache__")
        self.assertTrue(all(name.endswith(".py") for name in held))
        self.assertLessEqual({module + ".py" for module in INTERFACE} | {"__init__.py", "errors.py"}, set(held))

    def test_each_refusal_is_a_space_error(self):
        for asked in (lambda: Turn((0, 0, 0, 0)), lambda: falling_ways(-1), lambda: deed_read(""), lambda: one_way(401),
                      lambda: Desk().tell(""), lambda: Desk().tell("show a"), lambda: divided(ONE, NOUGHT, "left"),
                      lambda: number_of((2, ((1, 0, 0), (0, 1, 0), (0, 0, 1)))), lambda: chosen(4, "left"),
                      lambda: taken_apart(ONE, [4]), lambda: taken_apart((4, 0, 0, 0), [2, 2]),
                      lambda: exact(ONE, ONE, "")):
            with self.assertRaises(SpaceError) as taken:
                asked()
            self.assertEqual(taken.exception.__class__.__bases__, (SpaceError,))
            self.assertIsInstance(taken.exception, ValueError)


if __name__ == "__main__":
    unittest.main()
