"""Point 2 and the interface: the refusals."""

import unittest

from paperwright import errors
from reference import REFUSALS


class ErrorsTest(unittest.TestCase):
    def test_the_base_is_a_value_error(self):
        self.assertTrue(issubclass(errors.HouseError, ValueError))

    def test_each_refusal_stands_under_the_base(self):
        for name in REFUSALS:
            with self.subTest(name=name):
                kind = getattr(errors, name)
                self.assertTrue(issubclass(kind, errors.HouseError))
                self.assertTrue(issubclass(kind, ValueError))
                self.assertIsNot(kind, errors.HouseError)

    def test_no_refusal_stands_under_another(self):
        for name in REFUSALS:
            for other in REFUSALS:
                if name != other:
                    self.assertFalse(issubclass(getattr(errors, name), getattr(errors, other)), (name, other))


if __name__ == "__main__":
    unittest.main()
