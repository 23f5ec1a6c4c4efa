import unittest

from ticktrees import errors

BELOW = ("NoPart", "NoTree", "TooMany", "NoDeed", "BadTree", "NoText")


class Errors(unittest.TestCase):
    def test_any_refusal_is_a_value_error(self):
        self.assertEqual(errors.TickError.__bases__, (ValueError,))

    def test_all_six_are_below_it_and_none_below_another(self):
        for name in BELOW:
            with self.subTest(name):
                self.assertTrue(issubclass(getattr(errors, name), errors.TickError))
        for one in BELOW:
            for other in BELOW:
                if one != other:
                    self.assertFalse(issubclass(getattr(errors, one), getattr(errors, other)), (one, other))

    def test_each_is_raised_and_caught_as_any_refusal(self):
        for name in BELOW:
            with self.subTest(name), self.assertRaises(errors.TickError):
                raise getattr(errors, name)("why")


if __name__ == "__main__":
    unittest.main()
