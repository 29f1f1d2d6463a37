"""Point 3: the classes of the refusals."""

import unittest

from heardapart import errors

NAMES = ("NoName NoWeb NoHand NoRoad NoBook Unlike NoNumber NoNumbering NoSpot TooMany Twice Empty NoWord Alike "
         "NoMoment Faulty NoBooks NoParting Cross Common NoLine NoHeap NoText NoRow NoNet Unfinished").split()


class TheClasses(unittest.TestCase):
    def test_apart_error_is_a_value_error(self):
        self.assertTrue(issubclass(errors.ApartError, ValueError))

    def test_each_is_under_apart_error(self):
        for name in NAMES:
            with self.subTest(name):
                self.assertTrue(issubclass(getattr(errors, name), errors.ApartError))
                self.assertIsNot(getattr(errors, name), errors.ApartError)

    def test_none_is_under_another_one(self):
        for name in NAMES:
            for other in NAMES:
                if name != other:
                    self.assertFalse(issubclass(getattr(errors, name), getattr(errors, other)), name + other)

    def test_none_is_under_another_error_of_python(self):
        for name in NAMES:
            self.assertEqual([errors.ApartError, ValueError, Exception, BaseException, object],
                             list(getattr(errors, name).__mro__[1:]))

    def test_each_tells_its_text(self):
        for name in NAMES + ["ApartError"]:
            for text in ("", "why", "two\nrows", "a b c"):
                self.assertEqual(text, str(getattr(errors, name)(text)))

    def test_each_is_caught_by_its_class_alone(self):
        for name in NAMES:
            others = tuple(getattr(errors, other) for other in NAMES if other != name)
            with self.assertRaises(getattr(errors, name)):
                try:
                    raise getattr(errors, name)("why")
                except others:
                    self.fail("caught as another one")

    def test_each_is_defined_in_its_file(self):
        for name in NAMES + ["ApartError"]:
            self.assertEqual("heardapart.errors", getattr(errors, name).__module__)
            self.assertEqual(name, getattr(errors, name).__name__)


if __name__ == "__main__":
    unittest.main()
