import itertools
import unittest

from samples import LONG, MIXED, NINES, NOUGHT, SIDES, SMALL
from spaceturns.apart import whole_divisor
from spaceturns.deeds import Turn
from spaceturns.desk import Desk
from spaceturns.errors import Divided, NoLine, NoName, NoOrder, NoText, Nought, SpaceError, TooGreat
from spaceturns.fours import many_times, total
from spaceturns.greatest import greatest
from spaceturns.papers import shows_telling
from spaceturns.primesize import mate_by
from spaceturns.products import other_signed, product, size
from spaceturns.squares import count_ways, falling_ways
from spaceturns.staying import base_of, corner_number
from spaceturns.texts import four_read, four_text

# Parts of at most forty figures, and what is written of them.
KEPT = {"a": (1, -3, 5, 7), "b": (2, 4, 0, 0), "zero": NOUGHT, "long": LONG[0], "even": LONG[1], "six": (6, 6, 6, 6),
        "abcdefgh": (0, 0, 0, -2), "keep": (10, 12, -14, 8), "none": (3, 1, 1, 1)}
NO_NAMES = ["", "A", "aB", "abcdefghi", "a1", "1", "a-b", "a_b", "-", "a.", "\u00e9", "\u00df", "a\t", "*", "x/2"]
NO_NUMBERS = ["", "x", "+1", "01", "-0", "1/2", "2/2", "1.0", "--1", "-", "1_0", "1e3", "\t1", "a", "1;",
              "1" + "0" * 40]


def filled():
    desk = Desk()
    for name, four in KEPT.items():
        desk.tell(f"keep {name} {four_text(four)}")
    return desk


def looked_at(desk):
    """All that a desk keeps."""
    names = desk.tell("names").split(" ")
    try:
        return {name: desk.tell("show " + name) for name in names}
    except NoName:
        return {}


class DeskCase(unittest.TestCase):
    def setUp(self):
        self.desk = filled()

    def refused(self, line):
        before = looked_at(self.desk)
        with self.assertRaises(SpaceError) as taken:
            self.desk.tell(line)
        self.assertEqual(looked_at(self.desk), before, line)
        return taken.exception

    def is_no_line(self, line):
        self.assertIs(self.refused(line).__class__, NoLine, line)

    def has_no_name(self, line, name):
        error = self.refused(line)
        self.assertIs(error.__class__, NoName, line)
        self.assertEqual(error.name, name)

    def is_refused_with(self, line, refusal):
        self.assertIs(self.refused(line).__class__, refusal, line)

    def asked(self, line):
        """The answer to a line that only asks."""
        before = looked_at(self.desk)
        told = self.desk.tell(line)
        self.assertIs(type(told), str)
        self.assertEqual(looked_at(self.desk), before)
        self.assertEqual(self.desk.tell(line), told)
        return told

    def kept(self, name):
        return four_read(self.desk.tell("show " + name))


class Keeping(DeskCase):
    def test_keep(self):
        desk = Desk()
        self.assertEqual(desk.tell("keep a 1/2 -3/2 5/2 7/2"), "1/2 -3/2 5/2 7/2")
        self.assertEqual(desk.tell("keep b 1 -2 0 3"), "1 -2 0 3")
        self.assertEqual(desk.tell("show a"), "1/2 -3/2 5/2 7/2")
        self.assertEqual(desk.tell("keep a 0 0 0 0"), "0 0 0 0")
        self.assertEqual(desk.tell("show a"), "0 0 0 0")
        self.assertEqual(desk.tell("show b"), "1 -2 0 3")
        self.assertEqual(desk.tell("names"), "a b")

    def test_keep_every_kind(self):
        for four in SMALL + MIXED + LONG:
            self.assertEqual(self.desk.tell("keep four " + four_text(four)), four_text(four))
            self.assertEqual(self.kept("four"), four)

    def test_any_name_of_small_letters(self):
        for name in ("z", "az", "names", "show", "left", "rest", "half", "zzzzzzzz", "turn", "drop"):
            self.assertEqual(self.desk.tell(f"keep {name} 1 1 1 1"), "1 1 1 1")
            self.assertEqual(self.desk.tell(f"show {name}"), "1 1 1 1")
            self.assertEqual(self.desk.tell(f"drop {name}"), "dropped")

    def test_keep_refuses(self):
        for name in NO_NAMES:
            self.is_no_line(f"keep {name} 1 2 3 4")
            self.is_no_line(f"keep {name} 1 x 3 4")
        for line in ("keep", "keep a", "keep a 1", "keep a 1 2 3", "keep a 1 2 3 4 5", "keep a x", "keep a 1 2 3 4 "):
            self.is_no_line(line)

    def test_keep_refuses_a_four(self):
        for words, at in (("x 2 3 4", 0), ("1 x 3 4", 1), ("1 2 +3 y", 2), ("1 2 3 04", 3), ("1 2 3 ", 3),
                          (" 2 3 4", 0), ("1/2 1/2 2/2 1/2", 2), ("1/2 1 1/2 1/2", 1), ("1 1 1/2 1/2", 2),
                          ("1/2 1/2 1/2 1", 3),
                          ("5" + "0" * 39 + " 0 0 0", 0), ("0 0 -" + "9" * 40 + " 0", 2), ("1/2 x 1 1", 1),
                          ("a 0 0 0", 0), ("1/2 1 x 1/2", 2)):
            for name in ("a", "new"):
                error = self.refused(f"keep {name} {words}")
                self.assertIs(error.__class__, NoText)
                self.assertEqual(error.at, at, words)

    def test_sum(self):
        for one, other in itertools.product(KEPT, repeat=2):
            four = total(KEPT[one], KEPT[other])
            if max(abs(part) for part in four) <= NINES:
                self.assertEqual(self.desk.tell(f"sum new {one} {other}"), four_text(four))
                self.assertEqual(self.kept("new"), four)
            else:
                self.is_refused_with(f"sum new {one} {other}", TooGreat)

    def test_times(self):
        for one, other in itertools.product(KEPT, repeat=2):
            four = product(KEPT[one], KEPT[other])
            if max(abs(part) for part in four) <= NINES:
                self.assertEqual(self.desk.tell(f"times new {one} {other}"), four_text(four))
                self.assertEqual(self.kept("new"), four)
            else:
                self.is_refused_with(f"times new {one} {other}", TooGreat)

    def test_bar(self):
        for name in KEPT:
            self.assertEqual(self.desk.tell(f"bar new {name}"), four_text(other_signed(KEPT[name])))
            self.assertEqual(self.kept("new"), other_signed(KEPT[name]))
            self.assertEqual(self.kept(name), KEPT[name])

    def test_what_was_kept_gives_way(self):
        self.assertEqual(self.desk.tell("sum a a a"), "1 -3 5 7")
        self.assertEqual(self.kept("a"), (2, -6, 10, 14))
        self.desk.tell("times b a b")
        self.assertEqual(self.kept("b"), product((2, -6, 10, 14), KEPT["b"]))
        self.desk.tell("bar none none")
        self.assertEqual(self.kept("none"), (3, -1, -1, -1))
        self.assertEqual(sorted(looked_at(self.desk)), sorted(KEPT))

    def test_forty_figures_in_the_tuple(self):
        self.desk.tell("keep most " + "4" + "9" * 39 + " 0 0 0")
        self.desk.tell("keep one 1 0 0 0")
        self.desk.tell("keep half 1/2 1/2 1/2 1/2")
        self.assertEqual(self.kept("most"), (NINES - 1, 0, 0, 0))
        self.is_refused_with("sum new most one", TooGreat)
        self.is_refused_with("sum most most one", TooGreat)
        self.assertEqual(self.desk.tell("sum new most half"), "9" * 40 + "/2 1/2 1/2 1/2")
        self.assertEqual(self.kept("new"), (NINES, 1, 1, 1))
        self.is_refused_with("sum new new half", TooGreat)
        self.assertEqual(self.desk.tell("times new most one"), "4" + "9" * 39 + " 0 0 0")
        self.desk.tell("keep two 2 0 0 0")
        self.is_refused_with("times new most two", TooGreat)
        self.desk.tell("keep least -4" + "9" * 39 + " 0 0 0")
        self.desk.tell("keep minus -1 0 0 0")
        self.is_refused_with("sum new least minus", TooGreat)
        self.assertEqual(self.kept("least"), (1 - NINES, 0, 0, 0))

    def test_too_great_at_each_place(self):
        for place, sign in itertools.product(range(4), (1, -1)):
            parts = [0, 0, 0, 0]
            parts[place] = sign * (NINES - 1)
            self.desk.tell("keep great " + four_text(tuple(parts)))
            self.is_refused_with("sum new great great", TooGreat)
            self.desk.tell("keep two 0 0 2 0")
            self.is_refused_with("times new great two", TooGreat)
            self.is_refused_with("times new two great", TooGreat)

    def test_making_refuses(self):
        for word in ("sum", "times"):
            for name in NO_NAMES:
                self.is_no_line(f"{word} {name} a b")
                self.is_no_line(f"{word} {name} nobody b")
                self.has_no_name(f"{word} new {name} b", name)
                self.has_no_name(f"{word} new a {name}", name)
            self.has_no_name(f"{word} new nobody noone", "nobody")
            self.has_no_name(f"{word} new a noone", "noone")
            self.has_no_name(f"{word} new new a", "new")
            self.has_no_name(f"{word} new long nobody", "nobody")
            for behind in ("", " new", " new a", " new a b a", " new a b ", "  a b c"):
                self.is_no_line(word + behind)
        for name in NO_NAMES:
            self.is_no_line(f"bar {name} a")
            self.is_no_line(f"bar {name} nobody")
            self.has_no_name(f"bar new {name}", name)
        self.has_no_name("bar new new", "new")
        for line in ("bar", "bar new", "bar new a b", "bar a a ", "bar "):
            self.is_no_line(line)

    def test_drop(self):
        self.assertEqual(self.desk.tell("drop a"), "dropped")
        self.has_no_name("show a", "a")
        self.has_no_name("drop a", "a")
        self.assertEqual(self.desk.tell("show b"), "1 2 0 0")
        self.assertNotIn("a", self.desk.tell("names").split(" "))
        self.assertEqual(self.desk.tell("keep a 1 0 0 0"), "1 0 0 0")
        self.assertEqual(self.desk.tell("show a"), "1 0 0 0")
        for name in NO_NAMES + ["nobody"]:
            self.has_no_name(f"drop {name}", name)
        for line in ("drop", "drop a b", "drop a "):
            self.is_no_line(line)

    def test_names(self):
        desk = Desk()
        self.assertEqual(desk.tell("names"), "none")
        for name in ("b", "ab", "z", "a", "aa", "abc"):
            desk.tell(f"keep {name} 1 0 0 0")
        self.assertEqual(desk.tell("names"), "a aa ab abc b z")
        for name in ("b", "ab", "z", "a", "aa", "abc"):
            desk.tell(f"drop {name}")
        self.assertEqual(desk.tell("names"), "none")
        self.assertEqual(self.asked("names"), " ".join(sorted(KEPT)))
        for line in ("names a", "names ", " names"):
            self.is_no_line(line)


class Asking(DeskCase):
    def test_show_and_size(self):
        for name, four in KEPT.items():
            self.assertEqual(self.asked(f"show {name}"), four_text(four))
            self.assertEqual(self.asked(f"size {name}"), str(size(four)))

    def test_divide(self):
        for side, one, other in itertools.product(SIDES, KEPT, KEPT):
            line = f"divide {side} {one} {other}"
            if KEPT[other] == NOUGHT:
                self.is_refused_with(line, Nought)
                continue
            quotient, word, rest = self.asked(line).partition(" rest ")
            self.assertEqual(word, " rest ")
            quotient, rest = four_read(quotient), four_read(rest)
            times = product(quotient, KEPT[other]) if side == "right" else product(KEPT[other], quotient)
            self.assertEqual(total(times, rest), KEPT[one])
            self.assertLess(size(rest), size(KEPT[other]))

    def test_divide_without_a_rest(self):
        self.desk.tell("times right a b")
        self.desk.tell("times left b a")
        self.assertEqual(self.desk.tell("divide right right b"), "1/2 -3/2 5/2 7/2 rest 0 0 0 0")
        self.assertEqual(self.desk.tell("divide left left b"), "1/2 -3/2 5/2 7/2 rest 0 0 0 0")

    def test_shared(self):
        for side, one, other in itertools.product(SIDES, KEPT, KEPT):
            d = four_read(self.asked(f"shared {side} {one} {other}"))
            known = greatest(KEPT[one], KEPT[other], side)[0]
            if known == NOUGHT:
                self.assertEqual(d, NOUGHT)
            else:
                self.assertIsNotNone(mate_by(d, known, "left" if side == "right" else "right"))
        self.assertEqual(self.desk.tell("shared left zero zero"), "0 0 0 0")

    def test_apart(self):
        for name, orders in (("a", ([3, 7], [7, 3])), ("b", ([5],)), ("abcdefgh", ([],)), ("none", ([3],)),
                             ("keep", ([2, 3, 3, 7], [7, 2, 3, 3], [3, 2, 7, 3]))):
            for order in orders:
                line = " ".join(["apart", name] + [str(prime) for prime in order])
                e, *parts = [four_read(text) for text in self.asked(line).split("; ")]
                self.assertTrue(shows_telling(KEPT[name], order, (e, parts)))
        self.assertEqual(self.asked("apart abcdefgh"), "0 0 0 -1")

    def test_apart_in_forty_parts(self):
        self.desk.tell("keep three 1 1 1 0")
        self.desk.tell("keep all 1 0 0 0")
        for step in range(40):
            four = product(self.kept("all"), (2, 2, 2, 0))
            if whole_divisor(four) > 1:
                self.desk.tell("keep three 1 -1 1 0")
            self.desk.tell("times all all three")
        order = [3] * 40
        e, *parts = [four_read(text) for text in self.asked("apart all" + " 3" * 40).split("; ")]
        self.assertTrue(shows_telling(self.kept("all"), order, (e, parts)))
        self.is_refused_with("apart all" + " 3" * 39, NoOrder)
        self.is_no_line("apart all" + " 3" * 41)
        self.is_no_line("apart nobody" + " 1" * 41)
        self.is_no_line("apart all" + " 3" * 60)

    def test_apart_refuses(self):
        self.is_refused_with("apart zero", Nought)
        self.is_refused_with("apart zero 4", Nought)
        for line, at in (("apart a", 0), ("apart a 3", 1), ("apart a 3 7 2", 3), ("apart a 3 4 7", 1), ("apart a 0", 0),
                         ("apart a -3 -7", 0), ("apart a 21", 0), ("apart a 3 101", 1), ("apart six 1 " + "9" * 40, 0),
                         ("apart six 2 2 3", 3)):
            error = self.refused(line)
            self.assertIs(error.__class__, NoOrder, line)
            self.assertEqual(error.at, at, line)

    def test_apart_divided(self):
        for line in ("apart six 2 3 2 3", "apart six 2 2 3 3"):
            error = self.refused(line)
            self.assertIs(error.__class__, Divided)
            self.assertEqual(error.by, 6)

    def test_turn(self):
        for name, four in KEPT.items():
            if four == NOUGHT:
                self.is_refused_with(f"turn {name}", Nought)
                continue
            n, rows = Turn(four).table()
            told = [int(word) for word in self.asked(f"turn {name}").split(" ")]
            self.assertEqual(told, [n] + [number for row in rows for number in row])
        self.desk.tell("keep quarter 1 0 0 1")
        self.assertEqual(self.asked("turn quarter"), "1 0 -1 0 1 0 0 0 0 1")
        self.desk.tell("keep third 1/2 1/2 1/2 1/2")
        self.assertEqual(self.asked("turn third"), "1 0 0 1 1 0 0 0 1 0")

    def test_place(self):
        spots = [(0, 0, 0), (1, -2, 3), (NINES, -NINES, 0), (21, 42, -21), (5, 0, 0)]
        for (name, four), spot in itertools.product(KEPT.items(), spots):
            line = "place " + " ".join([name] + [str(number) for number in spot])
            if four == NOUGHT:
                self.is_refused_with(line, Nought)
                continue
            n, reached = Turn(four).place(spot)
            self.assertEqual(self.asked(line), " ".join(str(number) for number in (n,) + reached))
        self.desk.tell("keep quarter 1 0 0 1")
        self.assertEqual(self.asked("place quarter 1 0 0"), "1 0 1 0")

    def test_corner_and_base(self):
        for name, four in KEPT.items():
            if four == NOUGHT:
                self.is_refused_with(f"corner {name}", Nought)
                self.is_refused_with(f"base {name}", Nought)
                continue
            self.assertEqual(self.asked(f"corner {name}"), str(corner_number(Turn(four))))
            told = [int(word) for word in self.asked(f"base {name}").split(" ")]
            self.assertEqual(told, [number for spot in base_of(Turn(four)) for number in spot])
        self.desk.tell("keep fifth 2 0 0 1")
        self.assertEqual(self.asked("corner fifth"), "5")
        self.assertEqual(self.asked("base fifth"), "1 2 0 0 5 0 0 0 1")

    def test_ways_and_squares(self):
        for n in (0, 1, 2, 4, 7, 25, 100, 399, 400):
            self.assertEqual(self.asked(f"ways {n}"), str(count_ways(n)))
            told = self.asked(f"squares {n}").split("; ")
            self.assertEqual([tuple(int(word) for word in way.split(" ")) for way in told], falling_ways(n))
        self.assertEqual(self.asked("squares 4"), "1 1 1 1; 2 0 0 0")
        self.assertEqual(self.asked("ways 1000000"), "468744")
        for number in (-1, 1000001, NINES, -NINES):
            self.is_refused_with(f"ways {number}", TooGreat)
        for number in (-1, 401, NINES, -NINES):
            self.is_refused_with(f"squares {number}", TooGreat)

    def test_an_empty_desk_tells_of_numbers(self):
        self.assertEqual(Desk().tell("ways 3"), "32")
        self.assertEqual(Desk().tell("squares 3"), "1 1 1 0")


class Refusing(DeskCase):
    def test_first_words(self):
        for line in ("", " ", "Keep a 1 2 3 4", "KEEP a 1 2 3 4", "kept a 1 2 3 4", "a", "none", "help", " names",
                     "names\n", "show\ta", "\tnames", "half 1 2 3", "mirror a", "sums a", "ways", "squares", "way 3",
                     "left a b",
                     "divide", "size", "turn", "place", "corner", "base", "shared", "apart", "show", "new a",
                     "telling a", "less a b", "new", "0", "-", "keep,a,1,2,3,4", "show  a", "ways  3", "size a\n b"):
            self.is_no_line(line)

    def test_more_or_fewer_words(self):
        right = ["show a", "size a", "divide left a b", "shared right a b", "turn a", "place a 1 2 3", "corner a",
                 "base a", "ways 3", "squares 3", "names", "drop a", "bar b a", "sum b a a", "times b a a",
                 "keep a 1 0 0 0"]
        for line in right:
            self.is_no_line(line + " ")
            self.is_no_line(line + " a")
            self.is_no_line(line + " 3")
            if line != "names":
                self.is_no_line(line.rpartition(" ")[0])
                self.is_no_line(line.replace(" ", "  ", 1))
            self.is_no_line(" " + line)

    def test_no_numbers(self):
        for word in NO_NUMBERS:
            for line in ("ways {}", "squares {}", "place a {} 2 3", "place a 1 {} 3", "place a 1 2 {}", "apart a {}",
                         "apart a 3 {}", "apart a {} 7", "place nobody {} 2 3", "place zero 1 2 {}",
                         "apart nobody 3 {}", "apart zero {}", "apart A {}"):
                self.is_no_line(line.format(word))

    def test_no_sides(self):
        for word in ("", "Left", "RIGHT", "up", "a", "lefty", "left;", "l", "0"):
            for first in ("divide", "shared"):
                self.is_no_line(f"{first} {word} a b")
                self.is_no_line(f"{first} {word} nobody b")
                self.is_no_line(f"{first} {word} a zero")
                self.is_no_line(f"{first} a left b")

    def test_no_names(self):
        for name in NO_NAMES + ["nobody", "rest", "left", "x"]:
            for first in ("show", "size", "turn", "corner", "base", "drop", "apart"):
                self.has_no_name(f"{first} {name}", name)
            self.has_no_name(f"place {name} 1 2 3", name)
            self.has_no_name(f"apart {name} 3 7", name)
            self.has_no_name(f"apart {name} 4", name)
            for first, side in itertools.product(("divide", "shared"), SIDES):
                self.has_no_name(f"{first} {side} {name} b", name)
                self.has_no_name(f"{first} {side} a {name}", name)
                self.has_no_name(f"{first} {side} {name} nemo", name)
                self.has_no_name(f"{first} {side} {name} zero", name)

    def test_names_ahead_of_what_the_functions_refuse(self):
        self.has_no_name("divide left nobody zero", "nobody")
        self.has_no_name("sum new long nobody", "nobody")
        self.has_no_name("times new nobody long", "nobody")
        self.is_refused_with("times new long long", TooGreat)
        self.is_refused_with("times long long long", TooGreat)
        self.is_refused_with("divide right zero zero", Nought)
        self.is_refused_with("place zero 1 2 3", Nought)

    def test_nothing_is_kept_at_first(self):
        self.desk = Desk()
        for line in ("show a", "drop a", "size a", "apart a", "turn a", "bar b a", "sum b a a", "divide left a b"):
            self.has_no_name(line, "a")
        self.assertEqual(self.desk.tell("names"), "none")

    def test_a_line_of_six_hundred_signs(self):
        self.is_no_line("show " + "a" * 9 + " " * 586)
        self.has_no_name("show " + "a" * 595, "a" * 595)
        self.is_no_line("a" * 600)


class Desks(unittest.TestCase):
    def test_beside_each_other(self):
        one, other = Desk(), Desk()
        one.tell("keep a 1 0 0 0")
        self.assertEqual((one.tell("names"), other.tell("names")), ("a", "none"))
        other.tell("keep a 2 0 0 0")
        other.tell("keep b 1/2 1/2 1/2 1/2")
        self.assertEqual((one.tell("show a"), other.tell("show a")), ("1 0 0 0", "2 0 0 0"))
        one.tell("drop a")
        self.assertEqual((one.tell("names"), other.tell("names")), ("none", "a b"))
        self.assertEqual(Desk().tell("names"), "none")

    def test_two_that_are_told_the_same_lines(self):
        lines = ["keep a 1/2 -3/2 5/2 7/2", "keep b 1 2 0 0", "times c a b", "divide left c a", "shared right c b",
                 "apart a 3 7", "base c", "turn c", "sum a a a", "apart c 3 5 7", "names"]
        one, other = Desk(), Desk()
        told = [one.tell(line) for line in lines]
        self.assertEqual([other.tell(line) for line in lines], told)

    def test_what_a_refused_line_would_make_is_not_kept(self):
        desk = Desk()
        desk.tell("keep a 1 0 0 0")
        for line in ("keep b 1 2 3 x", "sum b a c", "times b c a", "bar b c", "keep a 1/2 1 1 1", "sum a a c"):
            with self.assertRaises(SpaceError):
                desk.tell(line)
        self.assertEqual(desk.tell("names"), "a")
        self.assertEqual(desk.tell("show a"), "1 0 0 0")

    def test_many_fours(self):
        desk = Desk()
        names = ["".join(letters) for letters in itertools.product("abyz", repeat=3)]
        for number, name in enumerate(names):
            desk.tell(f"keep {name} {number} 0 -{number + 1} 0")
        self.assertEqual(desk.tell("names"), " ".join(sorted(names)))
        for number, name in enumerate(names):
            self.assertEqual(desk.tell(f"show {name}"), f"{number} 0 -{number + 1} 0")
        self.assertEqual(four_read(desk.tell("sum a aaa zzz")), total((0, 0, -2, 0), many_times((63, 0, -64, 0), 2)))


if __name__ == "__main__":
    unittest.main()
