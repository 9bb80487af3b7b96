"""Promises [1] and [5], and rotorwalk/errors.py: the refusals."""

import unittest

from rotorwalk import errors

PLAIN = ["BadWeb", "BadHands", "BadPlace", "BadCount", "NoStep", "NotEven"]


class Refusals(unittest.TestCase):
    def test_a_walk_error_is_straight_under_value_error(self):
        self.assertEqual(errors.WalkError.__bases__, (ValueError,))

    def test_each_refusal_is_straight_under_walk_error(self):
        for name in PLAIN + ["Endless"]:
            with self.subTest(name=name):
                self.assertEqual(getattr(errors, name).__bases__, (errors.WalkError,))

    def test_each_refusal_is_defined_in_errors_under_its_name(self):
        for name in PLAIN + ["Endless", "WalkError"]:
            with self.subTest(name=name):
                self.assertEqual(getattr(errors, name).__module__, "rotorwalk.errors")
                self.assertEqual(getattr(errors, name).__name__, name)

    def test_no_refusal_is_under_another_one(self):
        refusals = [getattr(errors, name) for name in PLAIN + ["Endless"]]
        for one in refusals:
            for other in refusals:
                with self.subTest(one=one, other=other):
                    self.assertEqual(issubclass(one, other), one is other)

    def test_plain_refusals_are_made_without_and_with_words(self):
        for name in PLAIN + ["WalkError"]:
            refusal = getattr(errors, name)
            with self.subTest(name=name):
                self.assertIs(type(refusal()), refusal)
                self.assertEqual(str(refusal("words")), "words")

    def test_endless_has_its_place(self):
        for place in range(8):
            self.assertEqual(errors.Endless(place).place, place)
            self.assertEqual(errors.Endless(place=place).place, place)

    def test_two_endless_have_each_their_own_place(self):
        one, other = errors.Endless(1), errors.Endless(2)
        self.assertEqual((one.place, other.place), (1, 2))

    def test_endless_needs_its_place(self):
        with self.assertRaises(TypeError):
            errors.Endless()

    def test_endless_is_caught_as_walk_error_and_value_error(self):
        for kind in (errors.Endless, errors.WalkError, ValueError):
            with self.assertRaises(kind) as caught:
                raise errors.Endless(5)
            self.assertEqual(caught.exception.place, 5)


if __name__ == "__main__":
    unittest.main()
