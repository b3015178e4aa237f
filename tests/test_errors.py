import unittest

from tickrows import errors
from tickrows.errors import Clash, NoBack, NoName, NoText, NoTick, NoWave, TickError, TooLong, Unlike

REFUSALS = [NoTick, Unlike, Clash, TooLong, NoWave, NoName, NoText, NoBack]


class Refusals(unittest.TestCase):
    """[0.3] and the row errors.py of the interface."""

    def test_tick_error_stands_under_value_error(self):
        self.assertTrue(issubclass(TickError, ValueError))

    def test_each_refusal_stands_under_tick_error(self):
        for refusal in REFUSALS:
            with self.subTest(refusal=refusal.__name__):
                self.assertTrue(issubclass(refusal, TickError))
                self.assertIsNot(refusal, TickError)

    def test_no_refusal_stands_under_another(self):
        for one in REFUSALS:
            for other in REFUSALS:
                if one is not other:
                    with self.subTest(one=one.__name__, other=other.__name__):
                        self.assertFalse(issubclass(one, other))

    def test_each_has_its_own_name_and_is_a_class_of_its_own(self):
        names = ["NoTick", "Unlike", "Clash", "TooLong", "NoWave", "NoName", "NoText", "NoBack"]
        self.assertEqual([refusal.__name__ for refusal in REFUSALS], names)
        self.assertEqual(len(set(REFUSALS)), 8)
        for name in names:
            self.assertEqual(getattr(errors, name).__name__, name)

    def test_each_can_be_raised_and_taken_as_a_value_error(self):
        for refusal in REFUSALS:
            with self.subTest(refusal=refusal.__name__):
                with self.assertRaises(ValueError):
                    raise refusal("so")


if __name__ == "__main__":
    unittest.main()
