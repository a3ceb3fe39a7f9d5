import itertools
import math
import unittest

from samples import AXES, GREAT, MORE_ROWS, NINES, ROWS, SPOTS, upright_one
from spaceturns.deeds import Deed, HalfTurn, Mirror, Turn, deed_read
from spaceturns.errors import NoText, Nought, SpaceError
from spaceturns.products import plain_product
from spaceturns.tables import behind, number_of, place_by, table_fault, table_of

SAME = (1, ((1, 0, 0), (0, 1, 0), (0, 0, 1)))
TURNS = [Turn(row) for row in ROWS[::6] + MORE_ROWS]
HALVES = [HalfTurn(axis) for axis in AXES]
MIRRORS = [Mirror(axis) for axis in AXES]
DEEDS = TURNS + HALVES + MIRRORS


def opposite(spot):
    return tuple(-part for part in spot)


class Classes(unittest.TestCase):
    def test_straight_under_deed(self):
        for made in (Turn, HalfTurn, Mirror):
            self.assertEqual(made.__bases__, (Deed,))

    def test_noughts(self):
        for made, numbers in ((Turn, (0, 0, 0, 0)), (HalfTurn, (0, 0, 0)), (Mirror, (0, 0, 0))):
            with self.assertRaises(SpaceError) as taken:
                made(numbers)
            self.assertIs(taken.exception.__class__, Nought)


class Turns(unittest.TestCase):
    def test_number(self):
        self.assertEqual(Turn((2, 0, 0, 2)).number(), (1, 0, 0, 1))
        self.assertEqual(Turn((-6, 3, 0, -9)).number(), (2, -1, 0, 3))
        self.assertEqual(Turn((0, 0, -4, 6)).number(), (0, 0, 2, -3))
        for row in ROWS + MORE_ROWS:
            self.assertEqual(Turn(row).number(), upright_one(row))

    def test_table(self):
        self.assertEqual(Turn((2, 0, 0, 2)).table(), (1, ((0, -1, 0), (1, 0, 0), (0, 0, 1))))
        for row in ROWS + MORE_ROWS:
            turn = Turn(row)
            self.assertEqual(turn.table(), table_of(row))
            self.assertEqual(number_of(turn.table()), turn.number())

    def test_a_four_makes_the_turn_of_its_halves(self):
        for row in ROWS + MORE_ROWS:
            self.assertTrue(Turn(tuple(2 * part for part in row)).same(Turn(row)))

    def test_opposite_numbers_and_no_others_make_the_same(self):
        for row in ROWS:
            self.assertTrue(Turn(row).same(Turn(opposite(row))))
        for one, other in itertools.product(ROWS[::3], repeat=2):
            self.assertEqual(Turn(one).same(Turn(other)), upright_one(one) == upright_one(other))

    def test_behind(self):
        quarter, flipped = Turn((1, 0, 0, 1)), Turn((0, 1, 0, 0))
        self.assertEqual(flipped.behind(quarter).number(), (0, 1, -1, 0))
        self.assertEqual(quarter.behind(flipped).number(), (0, 1, 1, 0))
        self.assertEqual(flipped.behind(quarter).place((1, 0, 0)), (1, (0, -1, 0)))
        for first, second in itertools.product(TURNS, repeat=2):
            told = second.behind(first)
            self.assertIs(told.__class__, Turn)
            self.assertEqual(told.table(), behind(first.table(), second.table()))
            self.assertEqual(told.number(), upright_one(plain_product(second.number(), first.number())))

    def test_nothing_is_changed(self):
        first, second = Turn((1, 2, 3, 4)), Turn((4, 3, -2, 1))
        before = (first.told(), second.told(), first.table(), second.table())
        second.behind(first)
        first.back()
        first.same(second)
        first.place((1, 2, 3))
        self.assertEqual((first.told(), second.told(), first.table(), second.table()), before)
        self.assertEqual(second.behind(first).told(), second.behind(first).told())


class HalfTurnsAndMirrors(unittest.TestCase):
    def test_axis(self):
        for made in (HalfTurn, Mirror):
            self.assertEqual(made((2, -4, 6)).axis(), (1, -2, 3))
            self.assertEqual(made((0, -4, 6)).axis(), (0, 2, -3))
            self.assertEqual(made((0, 0, -7)).axis(), (0, 0, 1))
            for axis in AXES:
                self.assertEqual(made(axis).axis(), upright_one(axis))

    def test_tables(self):
        self.assertEqual(HalfTurn((0, 0, 5)).table(), (1, ((-1, 0, 0), (0, -1, 0), (0, 0, 1))))
        self.assertEqual(Mirror((0, 0, 5)).table(), (1, ((1, 0, 0), (0, 1, 0), (0, 0, -1))))
        self.assertEqual(HalfTurn((1, 1, 1)).table(), (3, ((-1, 2, 2), (2, -1, 2), (2, 2, -1))))
        self.assertEqual(Mirror((1, 1, 1)).table(), (3, ((1, -2, -2), (-2, 1, -2), (-2, -2, 1))))
        for axis in AXES:
            n, rows = table_of((0,) + axis)
            self.assertEqual(HalfTurn(axis).table(), (n, rows))
            self.assertEqual(Mirror(axis).table(), (n, tuple(opposite(row) for row in rows)))

    def test_a_mirror_turns_the_opposite_spot(self):
        for axis, spot in itertools.product(AXES, SPOTS):
            self.assertEqual(Mirror(axis).place(spot), HalfTurn(axis).place(opposite(spot)))

    def test_the_axis_stays_or_turns_round(self):
        for axis in AXES:
            self.assertEqual(HalfTurn(axis).place(axis), (1, axis))
            self.assertEqual(Mirror(axis).place(axis), (1, opposite(axis)))

    def test_upright_spots(self):
        for made, sign in ((HalfTurn, -1), (Mirror, 1)):
            self.assertEqual(made((3, 4, 0)).place((-4, 3, 0)), (1, (-4 * sign, 3 * sign, 0)))
            self.assertEqual(made((3, 4, 0)).place((0, 0, 9)), (1, (0, 0, 9 * sign)))


class AllDeeds(unittest.TestCase):
    def test_table_and_place(self):
        for deed in DEEDS:
            n, rows = deed.table()
            self.assertEqual(math.gcd(n, *rows[0], *rows[1], *rows[2]), 1)
            self.assertEqual(table_fault(deed.table()), ("over",) if isinstance(deed, Mirror) else None)
            self.assertEqual(deed.table(), deed.table())
            for spot in SPOTS:
                self.assertEqual(deed.place(spot), place_by(deed.table(), spot))

    def test_back(self):
        for deed in DEEDS:
            back = deed.back()
            self.assertIs(back.__class__, deed.__class__)
            self.assertEqual(behind(deed.table(), back.table()), SAME)
            self.assertEqual(behind(back.table(), deed.table()), SAME)
            self.assertTrue(back.back().same(deed))
        self.assertEqual(Turn((1, 2, -3, 4)).back().number(), (1, -2, 3, -4))
        self.assertEqual(Turn((0, 2, -3, 4)).back().number(), (0, 2, -3, 4))

    def test_same(self):
        for one, other in itertools.product(DEEDS, repeat=2):
            told = one.same(other)
            self.assertIs(type(told), bool)
            self.assertEqual(told, one.table() == other.table())

    def test_same_over_the_classes(self):
        for axis in AXES:
            half, turn, mirror = HalfTurn(axis), Turn((0,) + axis), Mirror(axis)
            self.assertTrue(half.same(turn))
            self.assertTrue(turn.same(half))
            self.assertTrue(half.same(HalfTurn(opposite(axis))))
            self.assertTrue(mirror.same(Mirror(tuple(3 * part for part in axis))))
            self.assertFalse(mirror.same(half))
            self.assertFalse(half.same(mirror))
            self.assertFalse(turn.same(mirror))
            self.assertFalse(mirror.same(turn))
        self.assertFalse(Turn((1, 0, 0, 1)).same(HalfTurn((0, 0, 1))))
        self.assertFalse(Mirror((0, 0, 1)).same(Mirror((0, 1, 0))))

    def test_told(self):
        self.assertEqual(Turn((2, 0, 0, -2)).told(), "turn 1 0 0 -1")
        self.assertEqual(Turn((0, -3, 6, 0)).told(), "turn 0 1 -2 0")
        self.assertEqual(HalfTurn((0, -5, 10)).told(), "half 0 1 -2")
        self.assertEqual(Mirror((12, 0, -18)).told(), "mirror 2 0 -3")
        self.assertEqual(HalfTurn((GREAT, 1, 0)).told(), "half " + "9" * 200 + " 1 0")
        self.assertEqual(Turn((0, 0, 0, 10 ** 60)).told(), "turn 0 0 0 1")

    def test_great_ones_told_are_handed_in_again(self):
        turn = Turn((10 ** 480 + 1, 3, -10 ** 479, 10 ** 481 + 7))
        twice = turn.behind(turn)
        self.assertLess(max(len(str(abs(part))) for part in twice.number()), 1000)
        self.assertTrue(Turn(twice.number()).same(twice))
        self.assertEqual(number_of(twice.table()), twice.number())
        self.assertEqual(twice.told(), "turn " + " ".join(str(part) for part in twice.number()))
        self.assertTrue(twice.back().behind(twice).same(Turn((1, 0, 0, 0))))
        axis = (10 ** 999, -7, 10 ** 998 + 1)
        self.assertEqual(HalfTurn(HalfTurn(axis).axis()).place(axis), (1, axis))


class DeedRead(unittest.TestCase):
    def refused(self, text):
        with self.assertRaises(SpaceError) as taken:
            deed_read(text)
        return taken.exception

    def no_text_at(self, text):
        error = self.refused(text)
        self.assertIs(error.__class__, NoText, text)
        return error.at

    def test_told_ones(self):
        self.assertEqual(deed_read("turn 2 0 0 -2").told(), "turn 1 0 0 -1")
        self.assertEqual(deed_read("turn -1 0 0 0").number(), (1, 0, 0, 0))
        self.assertEqual(deed_read("half 0 -5 10").axis(), (0, 1, -2))
        self.assertEqual(deed_read("mirror 0 0 -3").axis(), (0, 0, 1))

    def test_back_from_the_text(self):
        read = 0
        for deed in DEEDS:
            words = deed.told().split(" ")
            if all(len(word.lstrip("-")) <= 40 for word in words[1:]):
                read += 1
                again = deed_read(deed.told())
                self.assertIs(again.__class__, deed.__class__)
                self.assertEqual(again.told(), deed.told())
                self.assertTrue(again.same(deed))
            else:
                at = [len(word.lstrip("-")) > 40 for word in words[1:]].index(True) + 1
                self.assertEqual(self.no_text_at(deed.told()), at)
        self.assertGreater(read, 40)

    def test_forty_figures(self):
        nines = "9" * 40
        self.assertEqual(deed_read(f"turn {nines} 1 0 -{nines}").number(), (NINES, 1, 0, -NINES))
        self.assertEqual(deed_read(f"half 1 -{nines} 0").axis(), (1, -NINES, 0))
        for word in ("1" + "0" * 40, "-1" + "0" * 40, "9" * 200, "1" * 599):
            self.assertEqual(self.no_text_at(f"half 1 {word} 0"), 2)
            self.assertEqual(self.no_text_at(f"turn 1 0 0 {word}"), 4)

    def test_word_0(self):
        for text in ("", " ", "Turn 1 0 0 0", "turns 1 0 0 0", "1 0 0 0", " turn 1 0 0 0", "halfturn 1 0 0", "TURN",
                     "mirror1 0 0", "mirrors 1 0 0", "half-turn x", "deed 1 0 0", "none x y z", "tur", "HALF 1 0 0",
                     "turn,1,0,0,0", "\tturn 1 0 0 0", "0"):
            self.assertEqual(self.no_text_at(text), 0)

    def test_words_that_write_no_whole_number(self):
        for word in ("", "x", "+1", "01", "-0", "00", "1.0", "1/2", "2/2", "--1", "-", "1_0", "0x1", "1e3", "\t1",
                     "1\n", "half", "1,", "one", "-01", "1-"):
            for at in (1, 2, 3, 4):
                words = ["turn", "1", "2", "-3", "4"]
                words[at] = word
                self.assertEqual(self.no_text_at(" ".join(words)), at, word)
            for first, at in itertools.product(("half", "mirror"), (1, 2, 3)):
                words = [first, "0", "-2", "3"]
                words[at] = word
                self.assertEqual(self.no_text_at(" ".join(words)), at, word)

    def test_words_beyond(self):
        for beyond in ("5", "x", "", "5 6", "5 x", "0 0 0"):
            self.assertEqual(self.no_text_at("turn 1 2 3 4 " + beyond), 5)
            self.assertEqual(self.no_text_at("turn 0 0 0 0 " + beyond), 5)
            self.assertEqual(self.no_text_at("half 1 2 3 " + beyond), 4)
            self.assertEqual(self.no_text_at("mirror 1 2 3 " + beyond), 4)
            self.assertEqual(self.no_text_at("mirror 0 0 0 " + beyond), 4)

    def test_words_wanting(self):
        for words in (["turn", "1", "2", "3", "4"], ["half", "1", "2", "3"], ["mirror", "0", "0", "0"]):
            for number in range(1, len(words)):
                self.assertEqual(self.no_text_at(" ".join(words[:number])), number)

    def test_the_first_word_that_is_not_right(self):
        self.assertEqual(self.no_text_at("turn 1 x"), 2)
        self.assertEqual(self.no_text_at("turn x"), 1)
        self.assertEqual(self.no_text_at("turn 1 2 3 x 5"), 4)
        self.assertEqual(self.no_text_at("turn 1 y 3 x 5 6"), 2)
        self.assertEqual(self.no_text_at("half 1 2 x 4"), 3)
        self.assertEqual(self.no_text_at("half  1 2 3"), 1)
        self.assertEqual(self.no_text_at("half 1 2 "), 3)
        self.assertEqual(self.no_text_at("half 1 2 3 "), 4)

    def test_noughts_come_last(self):
        for text in ("turn 0 0 0 0", "half 0 0 0", "mirror 0 0 0"):
            self.assertIs(self.refused(text).__class__, Nought)
        self.assertEqual(self.no_text_at("turn 0 0 0"), 4)
        self.assertEqual(self.no_text_at("half 0 0 -0"), 3)
        self.assertEqual(self.no_text_at("turn 0 0 0 0 0"), 5)


if __name__ == "__main__":
    unittest.main()
