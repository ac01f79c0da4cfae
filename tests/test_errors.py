"""Point [4]: the classes of the refusals and their fields."""

import inspect
import unittest

from blindtill import errors
from blindtill.errors import (
    NoCall, NoCoins, NoName, NoNumber, NoParts, NoPay, NoPile, NoPlace, NoPromise, NoRight, NoTill, NoWorths, Stuck,
    Taken, TillError, TooGreat, Unserved)

WITHOUT_FIELDS = (NoPile, NoRight, NoName, NoNumber, NoWorths, NoParts, TooGreat, NoTill, Taken, NoPromise, NoPlace)
WITH_FIELD = ((NoCall, "place"), (NoCoins, "worth"), (NoPay, "rest"), (Unserved, "worth"), (Stuck, "worth"))
ALL = WITHOUT_FIELDS + tuple(refusal for refusal, _ in WITH_FIELD)


class TestErrors(unittest.TestCase):
    def test_till_error_stands_straight_beneath_value_error(self):
        self.assertEqual(TillError.__bases__, (ValueError,))

    def test_each_stands_straight_beneath_till_error(self):
        for refusal in ALL:
            with self.subTest(refusal=refusal.__name__):
                self.assertEqual(refusal.__bases__, (TillError,))

    def test_there_are_just_these(self):
        found = {name for name, thing in vars(errors).items() if inspect.isclass(thing)}
        self.assertEqual(found, {refusal.__name__ for refusal in ALL} | {"TillError"})
        for name in found:
            self.assertEqual(getattr(errors, name).__module__, "blindtill.errors")

    def test_each_is_caught_alone(self):
        for refusal in ALL:
            for other in ALL:
                with self.subTest(refusal=refusal.__name__, other=other.__name__):
                    self.assertEqual(issubclass(refusal, other), refusal is other)

    def test_those_without_fields_are_made_of_nothing(self):
        for refusal in WITHOUT_FIELDS + (TillError,):
            with self.subTest(refusal=refusal.__name__):
                self.assertEqual(vars(refusal()), {})

    def test_a_field_is_what_is_handed_in(self):
        for refusal, field in WITH_FIELD:
            for thing in (0, 1, 7, -3, 10 ** 12, 10 ** 30, 10 ** 5000, None):
                with self.subTest(refusal=refusal.__name__):
                    self.assertEqual(vars(refusal(thing)), {field: thing})
                    self.assertEqual(vars(refusal(**{field: thing})), {field: thing})
                    self.assertIs(getattr(refusal(thing), field), thing)

    def test_a_refusal_made_by_hand_has_a_text(self):
        for refusal, _ in WITH_FIELD:
            for thing in (0, None, 10 ** 5000):
                with self.subTest(refusal=refusal.__name__):
                    self.assertTrue(str(refusal(thing)))

    def test_no_call_may_be_made_of_nothing(self):
        self.assertEqual(vars(NoCall()), {"place": None})

    def test_the_others_need_their_field(self):
        for refusal, _ in WITH_FIELD:
            if refusal is not NoCall:
                with self.subTest(refusal=refusal.__name__), self.assertRaises(TypeError):
                    refusal()

    def test_each_is_raised_and_caught(self):
        for refusal in ALL:
            for caught in (refusal, TillError, ValueError):
                with self.subTest(refusal=refusal.__name__), self.assertRaises(caught):
                    raise refusal() if refusal in WITHOUT_FIELDS else refusal(3)


if __name__ == "__main__":
    unittest.main()
