import itertools
import unittest

from samples import AXES, MORE_ROWS, NINES, ROWS, upright_one
from spaceturns.deeds import HalfTurn, Mirror, Turn
from spaceturns.errors import NoTurn, SpaceError
from spaceturns.tables import behind, table_fault, table_of
from spaceturns.turnings import half_turns, mirrors, turn_of

LONG_ROWS = [tuple(10 ** 999 + part for part in (1, 3, 7, 9)), (0, 0, 0, 10 ** 999), (10 ** 999 + 1, 0, 0, 10 ** 999)]


def many(table, number):
    n, rows = table
    return (n * number, tuple(tuple(part * number for part in row) for row in rows))


class TurnOf(unittest.TestCase):
    def refused(self, table):
        with self.assertRaises(SpaceError) as taken:
            turn_of(table)
        self.assertIs(taken.exception.__class__, NoTurn)
        return taken.exception.why

    def test_told_ones(self):
        self.assertEqual(turn_of((1, ((0, -1, 0), (1, 0, 0), (0, 0, 1)))).number(), (1, 0, 0, 1))
        self.assertEqual(turn_of((6, ((2, 4, 4), (4, 2, -4), (-4, 4, -2)))).told(), "turn 1 1 1 0")

    def test_back_from_the_table(self):
        for row in list(itertools.product(range(-2, 3), repeat=4)) + MORE_ROWS + LONG_ROWS:
            if any(row):
                for number in (1, 2, 15, NINES):
                    turn = turn_of(many(table_of(row), number))
                    self.assertIs(turn.__class__, Turn)
                    self.assertEqual(turn.number(), upright_one(row))
                    self.assertTrue(turn.same(Turn(row)))

    def test_half_turns_are_turns(self):
        for axis in AXES:
            self.assertEqual(turn_of(HalfTurn(axis).table()).number(), (0,) + upright_one(axis))

    def test_each_fault(self):
        told = [
            (((2, 0, 0), (0, 1, 0), (0, 0, 1)), ("rows", 0, 0)),
            (((1, 0, 0), (1, 0, 0), (0, 0, 1)), ("rows", 0, 1)),
            (((1, 0, 0), (0, 1, 0), (1, 0, 0)), ("rows", 0, 2)),
            (((1, 0, 0), (0, 2, 0), (0, 0, 1)), ("rows", 1, 1)),
            (((1, 0, 0), (0, 1, 0), (0, 1, 0)), ("rows", 1, 2)),
            (((1, 0, 0), (0, 1, 0), (0, 0, 2)), ("rows", 2, 2)),
            (((1, 0, 0), (0, 1, 0), (0, 0, -2)), ("rows", 2, 2)),
            (((1, 0, 0), (0, 1, 0), (0, 0, -1)), ("over",)),
        ]
        for rows, fault in told:
            self.assertEqual(self.refused((1, rows)), fault)
            self.assertEqual(self.refused(many((1, rows), 10 ** 199)), fault)

    def test_mirrors_are_no_turns(self):
        for axis in AXES:
            self.assertEqual(self.refused(Mirror(axis).table()), ("over",))

    def test_great_tables_a_little_wrong(self):
        for row in MORE_ROWS:
            n, rows = table_of(row)
            wrong = (n, (rows[0], rows[1], (rows[2][0], rows[2][1], rows[2][2] + 1)))
            self.assertEqual(self.refused(wrong), table_fault(wrong))


class Pairs(unittest.TestCase):
    def looked_through(self, told, made, turn):
        self.assertIs(type(told), tuple)
        self.assertEqual([deed.__class__ for deed in told], [made, made])
        first, second = told
        self.assertEqual(behind(first.table(), second.table()), turn.table())

    def test_every_turn(self):
        for row in list(itertools.product(range(-3, 4), repeat=4)) + MORE_ROWS + LONG_ROWS:
            if any(row):
                turn = Turn(row)
                self.looked_through(half_turns(turn), HalfTurn, turn)
                self.looked_through(mirrors(turn), Mirror, turn)

    def test_the_second_is_done_behind_the_first(self):
        for row in ROWS:
            turn = Turn(row)
            for told in (half_turns(turn), mirrors(turn)):
                first, second = told
                self.assertEqual(behind(second.table(), first.table()), turn.back().table())

    def test_half_turns_handed_in_as_turns(self):
        for axis in AXES:
            self.looked_through(half_turns(HalfTurn(axis)), HalfTurn, Turn((0,) + axis))
            self.looked_through(mirrors(HalfTurn(axis)), Mirror, Turn((0,) + axis))

    def test_the_same_is_told_again_and_nothing_is_changed(self):
        turn = Turn((3, -1, 4, 1))
        kept = (turn.told(), turn.table())
        axes = [deed.axis() for deed in half_turns(turn) + mirrors(turn)]
        half_turns(Turn((1, 2, 3, 4)))
        self.assertEqual([deed.axis() for deed in half_turns(turn) + mirrors(turn)], axes)
        self.assertEqual((turn.told(), turn.table()), kept)


if __name__ == "__main__":
    unittest.main()
