"""errors.py: the refusals and how they stand under one another."""

import unittest

from signscreen.errors import BadInk, BadPaper, BadPicture, BadSize, ScreenError, Unlike

REFUSALS = (BadPicture, BadSize, BadInk, BadPaper, Unlike)


class ErrorsTest(unittest.TestCase):
    def test_screen_error_stands_straight_under_value_error(self):
        self.assertEqual(ScreenError.__bases__, (ValueError,))

    def test_each_refusal_stands_straight_under_screen_error(self):
        for refusal in REFUSALS:
            self.assertEqual(refusal.__bases__, (ScreenError,), refusal)

    def test_none_stands_under_another_one(self):
        for one in REFUSALS:
            for other in REFUSALS:
                self.assertEqual(issubclass(one, other), one == other, (one, other))

    def test_the_refusals_are_called_as_told(self):
        names = [refusal.__name__ for refusal in REFUSALS]
        self.assertEqual(names, ["BadPicture", "BadSize", "BadInk", "BadPaper", "Unlike"])
        self.assertEqual(ScreenError.__name__, "ScreenError")

    def test_each_refusal_can_be_raised_and_taken_as_value_error(self):
        for refusal in REFUSALS:
            with self.assertRaises(ValueError):
                raise refusal("some words")


if __name__ == "__main__":
    unittest.main()
