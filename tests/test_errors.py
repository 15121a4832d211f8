"""The refusals' classes."""

import unittest

from cellships import errors
from cellships.errors import CellError

NAMES = ("NoRule", "Loud", "NoSize", "Folded", "NoNumber", "NoRest", "NoThing", "Outside", "TooWide",
         "NoText", "NoName", "NoLine")


class ErrorsTest(unittest.TestCase):

    def classes(self):
        return [getattr(errors, name) for name in NAMES]

    def test_base_is_a_value_error(self):
        self.assertTrue(issubclass(CellError, ValueError))
        self.assertEqual(CellError.__name__, "CellError")

    def test_all_twelve_stand_under_the_base(self):
        for name, error in zip(NAMES, self.classes()):
            self.assertTrue(issubclass(error, CellError), name)
            self.assertIsNot(error, CellError)
            self.assertEqual(error.__name__, name)

    def test_none_stands_under_another(self):
        for one in self.classes():
            under = [other for other in self.classes() if issubclass(one, other)]
            self.assertEqual(under, [one])
            self.assertFalse(issubclass(CellError, one))

    def test_each_is_taken_by_its_name_the_base_and_value_error(self):
        for error in self.classes():
            for wider in (error, CellError, ValueError):
                with self.assertRaises(wider):
                    raise error("why")


if __name__ == "__main__":
    unittest.main()
