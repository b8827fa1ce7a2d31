import unittest

from climbways import errors
from tests.helper import REFUSALS


class ErrorsTest(unittest.TestCase):
    def test_any_refusal_is_a_value_error(self):
        self.assertTrue(issubclass(errors.ClimbError, ValueError))

    def test_each_is_a_climb_error_and_a_value_error(self):
        for name in REFUSALS:
            with self.subTest(name=name):
                with self.assertRaises(errors.ClimbError):
                    raise getattr(errors, name)("told")
                self.assertTrue(issubclass(getattr(errors, name), errors.ClimbError))
                self.assertTrue(issubclass(getattr(errors, name), ValueError))

    def test_none_stands_under_another(self):
        for name in REFUSALS:
            for other in REFUSALS:
                if name != other:
                    with self.subTest(name=name, other=other):
                        self.assertFalse(issubclass(getattr(errors, name), getattr(errors, other)))

    def test_any_refusal_is_none_of_them(self):
        for name in REFUSALS:
            with self.subTest(name=name):
                self.assertFalse(issubclass(errors.ClimbError, getattr(errors, name)))


if __name__ == "__main__":
    unittest.main()
