"""Promise 1 and the interface of pairlings/errors.py."""

import unittest

from pairlings import errors

NAMES = ["NoPairing", "NoWalk", "NoNumber", "TooMany", "BadNote"]


class ErrorsTest(unittest.TestCase):
    def test_pair_error_is_a_value_error(self):
        self.assertEqual(errors.PairError.__bases__, (ValueError,))

    def test_each_stands_under_pair_error(self):
        for name in NAMES:
            with self.subTest(name):
                self.assertTrue(issubclass(getattr(errors, name), errors.PairError))
                self.assertTrue(issubclass(getattr(errors, name), ValueError))
                self.assertIsNot(getattr(errors, name), errors.PairError)

    def test_none_stands_under_another(self):
        for name in NAMES:
            for other in NAMES:
                if name != other:
                    with self.subTest(f"{name} under {other}"):
                        self.assertFalse(issubclass(getattr(errors, name), getattr(errors, other)))

    def test_each_can_be_raised_with_words(self):
        for name in ["PairError"] + NAMES:
            with self.subTest(name):
                with self.assertRaisesRegex(errors.PairError, "some words"):
                    raise getattr(errors, name)("some words")


if __name__ == "__main__":
    unittest.main()
