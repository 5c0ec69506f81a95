"""Tests of starward.errors: point [4] and the interface."""

import unittest

from starward import errors

WITH_MESSAGE = ["InvalidSky", "InvalidSighting", "InvalidPaper", "InvalidShowing", "NotPossible", "NotWhole",
                "TooLarge", "NothingToUndo", "NothingToRedo", "NoBlock"]
WITH_VALUE = {
    "InvalidAttitude": ("attitude", (9, 9, 9)),
    "InvalidCommand": ("command", (9, 9, 9)),
    "InvalidMotion": ("motion", (9, 9)),
    "UnknownStar": ("number", -1),
    "StarTaken": ("star", (1, 2, 3)),
    "InvalidNotation": ("line", 4),
}


class ErrorsTest(unittest.TestCase):

    def test_base_class_is_a_value_error(self):
        self.assertTrue(issubclass(errors.SkyError, ValueError))

    def test_every_class_stands_under_the_base_class(self):
        for name in [*WITH_MESSAGE, *WITH_VALUE]:
            self.assertTrue(issubclass(getattr(errors, name), errors.SkyError), name)

    def test_no_class_stands_under_another_one(self):
        classes = [thing for thing in vars(errors).values()
                   if isinstance(thing, type) and issubclass(thing, BaseException) and thing is not errors.SkyError]
        self.assertGreaterEqual(len(classes), len(WITH_MESSAGE) + len(WITH_VALUE))
        for one in classes:
            self.assertTrue(issubclass(one, errors.SkyError), one)
            for other in classes:
                self.assertEqual(issubclass(one, other), one is other, (one, other))

    def test_made_with_a_message(self):
        for name in WITH_MESSAGE:
            with self.assertRaises(errors.SkyError):
                raise getattr(errors, name)("told so")

    def test_made_with_the_value_of_the_attribute(self):
        for name, (attribute, value) in WITH_VALUE.items():
            self.assertEqual(getattr(getattr(errors, name)(value), attribute), value, name)


if __name__ == "__main__":
    unittest.main()
