"""The refusals: the interface's list for errors.py."""

import unittest

from dodays import errors

NAMES = ("NoDate", "NoThing", "NotOpen", "Ring", "BadThing", "NoRoom", "NoText")


class ErrorsTest(unittest.TestCase):
    def test_do_error_stands_directly_below_value_error(self):
        self.assertEqual(errors.DoError.__bases__, (ValueError,))

    def test_each_stands_below_do_error(self):
        for name in NAMES:
            with self.subTest(name=name):
                refusal = getattr(errors, name)
                self.assertTrue(issubclass(refusal, errors.DoError))
                self.assertTrue(issubclass(refusal, ValueError))
                self.assertIsNot(refusal, errors.DoError)

    def test_none_stands_below_another(self):
        for name in NAMES:
            for other in NAMES:
                if name != other:
                    with self.subTest(name=name, other=other):
                        self.assertFalse(issubclass(getattr(errors, name), getattr(errors, other)))

    def test_each_can_be_raised_and_caught_by_its_name_and_those_above(self):
        for name in NAMES:
            refusal = getattr(errors, name)
            for above in (refusal, errors.DoError, ValueError):
                with self.subTest(name=name, above=above.__name__), self.assertRaises(above):
                    raise refusal("why")


if __name__ == "__main__":
    unittest.main()
