import unittest

from spaceturns import errors
from spaceturns.errors import (
    Divided, NoLine, NoName, NoOrder, NoPrime, NoSide, NoText, NoTurn, Nought, SpaceError, TooGreat,
)

OF_A_TEXT = [NoSide, Nought, TooGreat, NoPrime, NoLine]
WITH_A_FIELD = [
    (NoText, "at", 3), (NoOrder, "at", 0), (Divided, "by", 6), (NoTurn, "why", ("rows", 0, 1)),
    (NoTurn, "why", ("over",)), (NoName, "name", "no name"),
]
ALL = OF_A_TEXT + [NoText, NoOrder, Divided, NoTurn, NoName]


class Errors(unittest.TestCase):
    def test_space_error_is_a_value_error(self):
        self.assertEqual(SpaceError.__bases__, (ValueError,))
        self.assertEqual(str(SpaceError("some words")), "some words")

    def test_each_stands_straight_under_space_error(self):
        for refusal in ALL:
            self.assertEqual(refusal.__bases__, (SpaceError,), refusal)

    def test_none_is_another(self):
        for refusal in ALL:
            for other in ALL:
                self.assertEqual(issubclass(refusal, other), refusal is other, (refusal, other))

    def test_made_of_a_text(self):
        for refusal in OF_A_TEXT:
            made = refusal("some words")
            self.assertIsInstance(made, SpaceError)
            self.assertEqual(str(made), "some words")

    def test_made_with_a_field(self):
        for refusal, field, value in WITH_A_FIELD:
            self.assertEqual(getattr(refusal(value), field), value)

    def test_fields_are_each_object_s_own(self):
        first, second = NoText(1), NoText(2)
        self.assertEqual((first.at, second.at), (1, 2))

    def test_raised_and_taken(self):
        for refusal in OF_A_TEXT:
            with self.assertRaises(refusal):
                raise refusal("some words")
        for refusal, field, value in WITH_A_FIELD:
            with self.assertRaises(ValueError) as taken:
                raise refusal(value)
            self.assertIs(taken.exception.__class__, refusal)
            self.assertEqual(getattr(taken.exception, field), value)

    def test_the_module_has_no_other_refusals(self):
        held = {value for value in vars(errors).values() if isinstance(value, type)}
        self.assertEqual(held, set(ALL) | {SpaceError})


if __name__ == "__main__":
    unittest.main()
