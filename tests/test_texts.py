import unittest

from samples import FOURS, NINES
from spaceturns.errors import NoText, SpaceError
from spaceturns.texts import four_read, four_text

# Words that write no part, none of which holds a blank.
NO_PARTS = [
    "", "-", "/", "/2", "-/2", "1/", "-1/", "+1", "+1/2", "--1", "1-", "-0", "-0/2", "00", "-00", "007", "-007", "01/2",
    "0/2", "2/2", "-2/2", "10/2", "1/1", "1/3", "1/4", "3/02", "1/22", "1/-2", "1/+2", "1//2", "1/2/2", "1/2/", "2/1",
    "1.5", "1.0", ".5", "1e3", "1_000", "1,5", "0x1", "i", "one", "a", "1i", "(1)", "~", "1\t", "\t1", "\n", "1/2\n",
    "\u0661", "\u00b2", "\uff11", "1/\u0662", "True", "None", "1/2i", "-1/2-", "'1'",
]


def at_of(text):
    try:
        four = four_read(text)
    except NoText as refused:
        return refused.at
    raise AssertionError(f"{text!r} was read as {four!r}")


class Written(unittest.TestCase):
    def test_told_ones(self):
        self.assertEqual(four_text((2, -4, 0, 6)), "1 -2 0 3")
        self.assertEqual(four_text((1, -3, 5, 7)), "1/2 -3/2 5/2 7/2")
        self.assertEqual(four_text((0, 0, 0, 0)), "0 0 0 0")
        self.assertEqual(four_text((-1, 1, -1, 1)), "-1/2 1/2 -1/2 1/2")
        self.assertEqual(four_text((-2, 20, 200, -2000)), "-1 10 100 -1000")

    def test_long_ones(self):
        self.assertEqual(four_text((NINES, -NINES, 1, 1)), "9" * 40 + "/2 -" + "9" * 40 + "/2 1/2 1/2")
        self.assertEqual(four_text((NINES - 1, 0, 0, 1 - NINES)), "4" + "9" * 39 + " 0 0 -4" + "9" * 39)
        self.assertEqual(four_text((2 * 10 ** 999, 0, 0, 0)), "1" + "0" * 999 + " 0 0 0")


class Read(unittest.TestCase):
    def test_told_ones(self):
        self.assertEqual(four_read("1 -2 0 3"), (2, -4, 0, 6))
        self.assertEqual(four_read("1/2 -3/2 5/2 7/2"), (1, -3, 5, 7))
        self.assertEqual(four_read("0 0 0 0"), (0, 0, 0, 0))
        self.assertEqual(four_read("10 -100 7 -1"), (20, -200, 14, -2))

    def test_written_and_read_back(self):
        for four in FOURS:
            self.assertEqual(four_read(four_text(four)), four)

    def test_words_that_write_no_part(self):
        for word in NO_PARTS:
            for place in range(4):
                for fill in ("1", "1/2"):
                    words = [fill] * 4
                    words[place] = word
                    self.assertEqual(at_of(" ".join(words)), place, words)

    def test_the_first_such_word_counts(self):
        self.assertEqual(at_of("1 2/2 -0 007"), 1)
        self.assertEqual(at_of("+1 x y z"), 0)
        self.assertEqual(at_of("1 2 -0 "), 2)

    def test_empty_words(self):
        self.assertEqual(at_of(""), 0)
        self.assertEqual(at_of(" "), 0)
        self.assertEqual(at_of(" 1 2 3 4"), 0)
        self.assertEqual(at_of("1  2 3 4"), 1)
        self.assertEqual(at_of("1 2 3  4"), 3)
        self.assertEqual(at_of("1 2 3 "), 3)
        self.assertEqual(at_of("1 2 3 4 "), 4)
        self.assertEqual(at_of("1 2 3 4  "), 4)

    def test_a_fifth_word(self):
        self.assertEqual(at_of("1 2 3 4 5"), 4)
        self.assertEqual(at_of("1 2 3 4 x"), 4)
        self.assertEqual(at_of("1 2 3 4 5 x"), 4)
        self.assertEqual(at_of("1 2 3 4 5 6 7"), 4)
        self.assertEqual(at_of("1/2 1/2 1/2 1/2 1/2"), 4)
        self.assertEqual(at_of(" ".join(["1"] * 300)), 4)

    def test_too_few_words(self):
        self.assertEqual(at_of("1"), 1)
        self.assertEqual(at_of("1 2"), 2)
        self.assertEqual(at_of("1 2 3"), 3)
        self.assertEqual(at_of("1/2"), 1)
        self.assertEqual(at_of("1/2 1/2 1/2"), 3)

    def test_halves_mixed_with_wholes(self):
        self.assertEqual(at_of("1 1/2 1 1/2"), 1)
        self.assertEqual(at_of("0 0 1/2 0"), 2)
        self.assertEqual(at_of("0 0 0 1/2"), 3)
        self.assertEqual(at_of("1/2 1 1 1"), 1)
        self.assertEqual(at_of("1/2 -1/2 3 1/2"), 2)
        self.assertEqual(at_of("1/2 1/2 1/2 0"), 3)

    def test_order_of_the_refusals(self):
        # a word that writes no part, ahead of a fifth word, too few words and mixed ones
        self.assertEqual(at_of("1 2 3 2/2 5"), 3)
        self.assertEqual(at_of("1 2/2"), 1)
        self.assertEqual(at_of("x"), 0)
        self.assertEqual(at_of("1 1/2 1 -0"), 3)
        # a fifth word or too few words, ahead of mixed ones
        self.assertEqual(at_of("1 1/2 1 1 1"), 4)
        self.assertEqual(at_of("1 1/2"), 2)
        self.assertEqual(at_of("1/2 1 1"), 3)

    def test_wholes_of_forty_figures_in_the_four(self):
        most = "4" + "9" * 39
        self.assertEqual(four_read(f"{most} -{most} 0 1"), (NINES - 1, 1 - NINES, 0, 2))
        self.assertEqual(four_read("5" + "0" * 38 + " 0 0 0"), (10 ** 39, 0, 0, 0))
        self.assertEqual(four_read("9" * 39 + " 0 0 0"), (2 * (10 ** 39 - 1), 0, 0, 0))
        one_more = "5" + "0" * 39
        self.assertEqual(at_of(f"{one_more} 0 0 0"), 0)
        self.assertEqual(at_of(f"0 -{one_more} 0 0"), 1)
        self.assertEqual(at_of("0 0 " + "9" * 40 + " 0"), 2)
        self.assertEqual(at_of("0 0 0 -1" + "0" * 40), 3)

    def test_halves_of_forty_figures_in_the_four(self):
        most = "9" * 40
        self.assertEqual(four_read(f"{most}/2 -{most}/2 1/2 1/2"), (NINES, -NINES, 1, 1))
        one_more = "1" + "0" * 39 + "1"
        self.assertEqual(at_of(f"{one_more}/2 1/2 1/2 1/2"), 0)
        self.assertEqual(at_of(f"1/2 1/2 1/2 -{one_more}/2"), 3)

    def test_too_long_words_count_as_no_parts(self):
        long = "5" + "0" * 39
        self.assertEqual(at_of(f"1 1/2 {long} 1 1"), 2)
        self.assertEqual(at_of("1 " + "9" * 590), 1)
        self.assertEqual(at_of("1 2 3 " + "9" * 6000), 3)
        self.assertEqual(at_of("1/2 " + "9" * 6000 + "/2"), 1)

    def test_what_is_written_may_be_too_long_to_read(self):
        self.assertEqual(at_of(four_text((2, 10 ** 40, 0, 0))), 1)
        self.assertEqual(at_of(four_text((1, 1, 1, 10 ** 40 + 1))), 3)

    def test_the_refusal(self):
        for text in ("", "1 2/2 3 4", "1 2 3 4 5", "1 2", "1 1/2 1 1"):
            with self.assertRaises(SpaceError) as taken:
                four_read(text)
            self.assertIs(taken.exception.__class__, NoText)
            self.assertIsInstance(taken.exception, ValueError)

    def test_a_refusal_changes_nothing_told_later(self):
        at_of("1 2/2 3 4")
        self.assertEqual(four_read("1 2 3 4"), (2, 4, 6, 8))
        self.assertEqual(at_of("1 2/2 3 4"), 1)


if __name__ == "__main__":
    unittest.main()
