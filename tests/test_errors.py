"""The refusals of the interface."""

import unittest

from textkinds import errors

NAMES = ["NoSign", "NoneSuch", "NoGiven", "NotSingle", "NoName", "Taken", "NoWriting"]


class Refusals(unittest.TestCase):

    def test_any_refusal_is_a_wrong_value(self):
        self.assertTrue(issubclass(errors.KindError, ValueError))

    def test_each_is_a_refusal(self):
        for name in NAMES:
            with self.subTest(name=name):
                self.assertTrue(issubclass(getattr(errors, name), errors.KindError))

    def test_none_is_below_another(self):
        for name in NAMES:
            for other in NAMES:
                with self.subTest(name=name, other=other):
                    below = issubclass(getattr(errors, name), getattr(errors, other))
                    self.assertEqual(below, name == other)

    def test_none_is_any_refusal(self):
        for name in NAMES:
            with self.subTest(name=name):
                self.assertFalse(issubclass(errors.KindError, getattr(errors, name)))


if __name__ == "__main__":
    unittest.main()
