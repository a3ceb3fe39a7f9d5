import itertools
import unittest

from samples import AXES, FEWER, GREAT, LONG, MIXED, MORE_ROWS, NO_SIDES, NOUGHT, ONE, ROWS, SIDES, SMALL, SPOTS
from spaceturns.apart import taken_apart
from spaceturns.deeds import HalfTurn, Mirror, Turn
from spaceturns.errors import NoSide, SpaceError
from spaceturns.fours import is_four, many_times, opposite, total
from spaceturns.greatest import greatest
from spaceturns.papers import greatest_paper, shows_base, shows_greatest, shows_pair, shows_telling
from spaceturns.primesize import of_size
from spaceturns.products import ones, other_signed, product, size
from spaceturns.staying import base_of
from spaceturns.tables import behind
from spaceturns.turnings import half_turns, mirrors

TURNS = [Turn(row) for row in ROWS[::7] + MORE_ROWS]


def comes_out(one, other, side, paper):
    d, s, t, u, v = paper
    if side == "right":
        return (product(u, d), product(v, d), total(product(s, one), product(t, other))) == (one, other, d)
    return (product(d, u), product(d, v), total(product(one, s), product(other, t))) == (one, other, d)


def by_a_one(paper, e, side):
    """The paper of another greatest divisor: e times the told one, or, from the left, the told one times e."""
    d, s, t, u, v = paper
    if side == "right":
        back = other_signed(e)
        return (product(e, d), product(e, s), product(e, t), product(u, back), product(v, back))
    back = other_signed(e)
    return (product(d, e), product(s, e), product(t, e), product(back, u), product(back, v))


class Greatest(unittest.TestCase):
    def test_papers(self):
        for one, other in itertools.product(FEWER, repeat=2):
            for side in SIDES:
                paper = greatest_paper(one, other, side)
                self.assertEqual((type(paper), len(paper)), (tuple, 5))
                self.assertTrue(all(is_four(four) for four in paper))
                self.assertTrue(comes_out(one, other, side, paper))
                self.assertIs(shows_greatest(one, other, side, paper), True)
                self.assertEqual(greatest_paper(one, other, side), paper)

    def test_noughts(self):
        for side in SIDES:
            self.assertEqual(greatest_paper(NOUGHT, NOUGHT, side)[0], NOUGHT)
            for four in SMALL[::5] + LONG:
                paper = greatest_paper(four, NOUGHT, side)
                self.assertEqual(size(paper[0]), size(four))
                self.assertIs(shows_greatest(four, NOUGHT, side, paper), True)
                self.assertIs(shows_greatest(NOUGHT, NOUGHT, side, (NOUGHT, four, four, four, four)), True)
                self.assertIs(shows_greatest(NOUGHT, NOUGHT, side, (ONE, four, four, NOUGHT, NOUGHT)), False)
                self.assertIs(shows_greatest(ONE, NOUGHT, side, (NOUGHT, four, four, four, four)), False)

    def test_any_d_for_which_it_comes_out(self):
        for one, other in itertools.product(MIXED + LONG, repeat=2):
            for side, e in itertools.product(SIDES, ones()[::5]):
                paper = by_a_one(greatest_paper(one, other, side), e, side)
                self.assertIs(shows_greatest(one, other, side, paper), True)

    def test_each_part_changed(self):
        for one, other in itertools.product(MIXED + LONG, repeat=2):
            for side in SIDES:
                paper = greatest_paper(one, other, side)
                for place, change in itertools.product(range(5), (ONE, (1, 1, -1, 1))):
                    wrong = paper[:place] + (total(paper[place], change),) + paper[place + 1:]
                    self.assertIs(shows_greatest(one, other, side, wrong), False)

    def test_the_sum_alone_or_one_product_alone_is_not_enough(self):
        one, other = (6, 0, 0, 0), (10, 0, 0, 0)
        for side in SIDES:
            self.assertIs(shows_greatest(one, other, side, (ONE, (4, 0, 0, 0), (-2, 0, 0, 0), one, other)), True)
            self.assertIs(shows_greatest(one, other, side, (ONE, (4, 0, 0, 0), (-4, 0, 0, 0), one, other)), False)
            self.assertIs(shows_greatest(one, other, side, (ONE, (4, 0, 0, 0), (-2, 0, 0, 0), other, other)), False)
            self.assertIs(shows_greatest(one, other, side, (ONE, (4, 0, 0, 0), (-2, 0, 0, 0), one, one)), False)
            self.assertIs(shows_greatest(one, other, side, (NOUGHT, NOUGHT, NOUGHT, NOUGHT, NOUGHT)), False)
            self.assertIs(shows_greatest(one, other, side, (one, ONE, NOUGHT, ONE, (3, 1, 1, 1))), False)

    def test_the_other_side(self):
        told = {True: 0, False: 0}
        for one, other in itertools.product(MIXED + LONG, repeat=2):
            for side, across in (SIDES, SIDES[::-1]):
                paper = greatest_paper(one, other, side)
                shown = shows_greatest(one, other, across, paper)
                self.assertIs(shown, comes_out(one, other, across, paper))
                told[shown] += 1
        self.assertGreater(told[False], 20)

    def test_tuples_whichever(self):
        fours = SMALL[::9] + MIXED[:2]
        for paper in zip(fours, fours[3:], fours[5:], fours[1:], fours[7:]):
            for one, other, side in itertools.product(fours[:6], fours[:6], SIDES):
                self.assertIs(shows_greatest(one, other, side, paper), comes_out(one, other, side, paper))

    def test_no_side(self):
        for side in NO_SIDES:
            for one, other in itertools.product((NOUGHT, ONE, LONG[0]), repeat=2):
                for asked in (lambda: greatest_paper(one, other, side),
                              lambda: shows_greatest(one, other, side, (ONE, ONE, ONE, ONE, ONE)),
                              lambda: shows_greatest(one, other, side, (NOUGHT, ONE, ONE, ONE, ONE))):
                    with self.assertRaises(SpaceError) as taken:
                        asked()
                    self.assertIs(taken.exception.__class__, NoSide)

    def test_what_was_told_is_handed_in_again(self):
        one = tuple(2 * 10 ** 498 + part for part in (1, 3, 5, 7))
        other = tuple(2 * 10 ** 497 + part for part in (9, -3, 1, 1))
        for side in SIDES:
            paper = greatest_paper(one, other, side)
            self.assertIs(shows_greatest(one, other, side, paper), True)
            self.assertEqual(paper[:3], greatest(one, other, side))


class Tellings(unittest.TestCase):
    def shows(self, four, order, telling):
        kept = (four, list(order), (telling[0], list(telling[1])))
        told = shows_telling(four, order, telling)
        self.assertIs(type(told), bool)
        self.assertEqual((four, order, telling), kept)
        return told

    def test_what_is_taken_apart(self):
        for four, order in (((1, -3, 5, 7), [3, 7]), ((1, -3, 5, 7), [7, 3]), ((2, 2, 0, 0), [2]), ((-1, 1, 1, 1), [])):
            self.assertTrue(self.shows(four, order, taken_apart(four, order)))
        for prime in (2, 3, 47, 97):
            for four in of_size(prime)[::50]:
                self.assertTrue(self.shows(four, [prime], (ONE, [four])))

    def test_the_one_ahead(self):
        four = (1, -3, 5, 7)
        e, parts = taken_apart(four, [3, 7])
        for one in ones():
            self.assertEqual(self.shows(four, [3, 7], (one, parts)), one == e)
        self.assertFalse(self.shows((4, 0, 0, 0), [], ((4, 0, 0, 0), [])))
        self.assertFalse(self.shows((2, 2, 0, 0), [], ((2, 2, 0, 0), [])))
        self.assertFalse(self.shows((4, 4, 0, 0), [2], ((4, 0, 0, 0), [(2, 2, 0, 0)])))
        self.assertFalse(self.shows(NOUGHT, [0], (NOUGHT, [NOUGHT])))

    def test_the_sizes_and_their_places(self):
        four = (1, -3, 5, 7)
        telling = taken_apart(four, [3, 7])
        for order in ([7, 3], [3], [7], [21], [], [3, 7, 1], [1, 3, 7], [3, 8], [-3, -7], [3, 7, 0]):
            self.assertFalse(self.shows(four, order, telling))

    def test_the_number_of_parts(self):
        four = (1, -3, 5, 7)
        e, parts = taken_apart(four, [3, 7])
        self.assertTrue(self.shows(four, [3, 7], (e, parts)))
        self.assertTrue(self.shows(four, [3, 7, 1], (e, parts + [ONE])))
        self.assertFalse(self.shows(four, [3, 7], (e, parts + [ONE])))
        self.assertFalse(self.shows(four, [3, 7], (e, parts[:1])))
        self.assertFalse(self.shows(four, [3, 7], (e, [])))
        self.assertFalse(self.shows(four, [3, 7], (e, [ONE] + parts)))

    def test_the_product_and_its_order(self):
        four = (1, -3, 5, 7)
        e, parts = taken_apart(four, [3, 7])
        self.assertFalse(self.shows(opposite(four), [3, 7], (e, parts)))
        self.assertFalse(self.shows(other_signed(four), [3, 7], (e, parts)))
        self.assertFalse(self.shows(NOUGHT, [3, 7], (e, parts)))
        self.assertNotEqual(product(parts[0], parts[1]), product(parts[1], parts[0]))
        self.assertFalse(self.shows(four, [7, 3], (e, parts[::-1])))
        self.assertEqual(self.shows(product(parts[0], product(parts[1], e)), [3, 7], (e, parts)),
                         product(parts[0], product(parts[1], e)) == four)

    def test_numbers_that_are_no_primes(self):
        self.assertTrue(self.shows((8, 0, 0, 0), [16], (ONE, [(8, 0, 0, 0)])))
        self.assertTrue(self.shows((8, 0, 0, 0), [4, 4], (ONE, [(4, 0, 0, 0), (4, 0, 0, 0)])))
        self.assertTrue(self.shows(NOUGHT, [0], (ONE, [NOUGHT])))
        self.assertTrue(self.shows((202, 0, 0, 0), [101 ** 2], (ONE, [(202, 0, 0, 0)])))
        self.assertFalse(self.shows((202, 0, 0, 0), [101], (ONE, [(202, 0, 0, 0)])))
        self.assertFalse(self.shows((8, 0, 0, 0), [-16], (ONE, [(8, 0, 0, 0)])))
        self.assertTrue(self.shows(ONE, [1, 1], (opposite(ONE), [opposite(ONE), ONE])))

    def test_great_parts(self):
        one, other = LONG[0], LONG[2]
        order = [size(one), size(other)]
        self.assertTrue(self.shows(product(one, other), order, (ONE, [one, other])))
        self.assertFalse(self.shows(product(other, one), order, (ONE, [one, other])))
        self.assertFalse(self.shows(product(one, other), order[::-1], (ONE, [one, other])))


class ShowsPair(unittest.TestCase):
    def test_the_told_pairs(self):
        for turn in TURNS:
            for word, told in (("half", half_turns(turn)), ("mirror", mirrors(turn))):
                first, second = [deed.axis() for deed in told]
                self.assertIs(shows_pair(turn, word, first, second), True)
                longer = tuple(-6 * part for part in second)
                self.assertIs(shows_pair(turn, word, first, longer), True)
                self.assertIs(shows_pair(turn, word, longer, first), turn.same(turn.back()))
                self.assertIs(shows_pair(turn.back(), word, second, first), True)

    def test_any_two_axes(self):
        for first, second in itertools.product(AXES, repeat=2):
            done = Turn((0,) + second).behind(Turn((0,) + first))
            for turn in TURNS[::4] + [done, done.back()]:
                for word, made in (("half", HalfTurn), ("mirror", Mirror)):
                    right = behind(made(first).table(), made(second).table()) == turn.table()
                    self.assertIs(shows_pair(turn, word, first, second), right)
            self.assertIs(shows_pair(done, "half", first, second), True)
            self.assertIs(shows_pair(done, "mirror", first, second), True)

    def test_no_axis(self):
        for turn in TURNS[:4] + [Turn((1, 0, 0, 0))]:
            for word, spot in itertools.product(("half", "mirror", "turn"), SPOTS):
                self.assertIs(shows_pair(turn, word, (0, 0, 0), spot), False)
                self.assertIs(shows_pair(turn, word, spot, (0, 0, 0)), False)

    def test_other_words(self):
        still = Turn((1, 0, 0, 0))
        self.assertIs(shows_pair(still, "half", (1, 2, 3), (1, 2, 3)), True)
        for word in ("", " ", "turn", "Half", "HALF", "half ", " mirror", "mirrors", "halves", "none", "h"):
            self.assertIs(shows_pair(still, word, (1, 2, 3), (1, 2, 3)), False)
            self.assertIs(shows_pair(still, word, (0, 0, 0), (0, 0, 0)), False)

    def test_a_little_wrong(self):
        turn = Turn((3, 1, 4, -1))
        first, second = [deed.axis() for deed in half_turns(turn)]
        for place in range(3):
            wrong = tuple(part + (at == place) for at, part in enumerate(second))
            self.assertIs(shows_pair(turn, "half", first, wrong), False)
            self.assertIs(shows_pair(turn, "mirror", wrong, second), False)


class ShowsBase(unittest.TestCase):
    def test_the_told_base(self):
        for turn in TURNS:
            self.assertIs(shows_base(turn, base_of(turn)), True)

    def test_other_bases_of_the_same_spots(self):
        turn = Turn((2, 0, 0, 1))
        self.assertIs(shows_base(turn, ((1, 2, 0), (0, 5, 0), (0, 0, 1))), True)
        self.assertIs(shows_base(turn, ((1, 7, 0), (0, 5, 0), (0, 0, 1))), False)
        self.assertIs(shows_base(turn, ((-1, 3, 0), (0, 5, 0), (0, 0, 1))), False)
        self.assertIs(shows_base(turn, ((1, 2, 0), (0, -5, 0), (0, 0, 1))), False)
        self.assertIs(shows_base(turn, ((0, 5, 0), (1, 2, 0), (0, 0, 1))), False)
        self.assertIs(shows_base(turn, ((1, 2, 1), (0, 5, 0), (0, 0, 1))), False)

    def test_spots_whichever(self):
        for turn in TURNS[::5]:
            base = base_of(turn)
            for spots in itertools.product(SPOTS[::4] + [base[0], base[1], base[2]], repeat=3):
                self.assertIs(shows_base(turn, spots), spots == base)
            self.assertIs(shows_base(turn, ((0, 0, 0),) * 3), False)
            self.assertIs(shows_base(turn, tuple(many_times(spot, 2) for spot in base)), False)
            self.assertIs(shows_base(turn, ((GREAT, 0, 0), (0, GREAT, 0), (0, 0, GREAT))), False)


if __name__ == "__main__":
    unittest.main()
