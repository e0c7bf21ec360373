import unittest

from rodbeads import errors
from tests.samples import ERROR_NAMES


class ErrorsTest(unittest.TestCase):
    def classes(self):
        return [getattr(errors, name) for name in ERROR_NAMES]

    def test_bead_error_is_a_value_error(self):
        self.assertTrue(issubclass(errors.BeadError, ValueError))

    def test_each_class_stands_under_bead_error(self):
        for one in self.classes():
            self.assertTrue(issubclass(one, errors.BeadError), one)
            self.assertIsNot(one, errors.BeadError)

    def test_no_class_stands_under_another(self):
        for one in self.classes():
            for other in ERROR_NAMES:
                if other != one.__name__:
                    self.assertFalse(issubclass(one, getattr(errors, other)), (one, other))

    def test_each_is_raised_and_taken_with_its_words(self):
        for one in self.classes():
            with self.assertRaises(errors.BeadError) as caught:
                raise one("words")
            self.assertIs(type(caught.exception), one)
            self.assertEqual(str(caught.exception), "words")


if __name__ == "__main__":
    unittest.main()
