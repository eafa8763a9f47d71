"""The errors: points 4 and 7, and the heading errors.py."""
import unittest

from followsortable import errors
from followsortable.errors import Broken, InvalidTable, InvalidText, NoMark, TableError


class Classes(unittest.TestCase):
    def test_bases(self):
        self.assertEqual(TableError.__bases__, (ValueError,))
        for error in (InvalidTable, InvalidText, Broken, NoMark):
            self.assertEqual(error.__bases__, (TableError,))

    def test_defined_here(self):
        for error in (TableError, InvalidTable, InvalidText, Broken, NoMark):
            self.assertEqual(error.__module__, "followsortable.errors")
            self.assertIs(getattr(errors, error.__name__), error)

    def test_fields(self):
        for number in (0, 1, -1, 2 ** 64, -2 ** 70):
            self.assertEqual(vars(InvalidText(number)), {"where": number})
            self.assertEqual(vars(Broken(number)), {"index": number})
            self.assertEqual(vars(NoMark(number)), {"mark": number})
        self.assertEqual(vars(InvalidTable()), {})

    def test_a_number_of_any_size_does_not_hinder_the_message(self):
        for error in (InvalidText(10 ** 5000), Broken(10 ** 5000), NoMark(-10 ** 5000)):
            self.assertNotEqual(str(error), "")

    def test_they_are_caught_by_name(self):
        with self.assertRaises(ValueError):
            raise TableError("message")
        with self.assertRaises(NoMark) as caught:
            raise NoMark(7)
        self.assertEqual(caught.exception.mark, 7)


if __name__ == "__main__":
    unittest.main()
