"""errors.py: the nine refusals."""

import unittest

from liftwater import errors

ABOVE = {
    "BadText": ValueError, "BadRow": ValueError, "NoTour": ValueError,
    "NoBoat": LookupError, "Lack": LookupError,
    "Shut": RuntimeError, "Astray": RuntimeError,
    "Dry": ArithmeticError, "Light": ArithmeticError,
}


class ErrorsTest(unittest.TestCase):
    def test_each_stands_straight_under_the_class_told(self):
        for name, above in ABOVE.items():
            with self.subTest(name):
                self.assertEqual(getattr(errors, name).__bases__, (above,))

    def test_none_is_under_another(self):
        for name in ABOVE:
            for other in ABOVE:
                with self.subTest(f"{name} {other}"):
                    self.assertEqual(issubclass(getattr(errors, name), getattr(errors, other)), name == other)

    def test_the_one_field_is_what_it_was_made_with(self):
        for name in ABOVE:
            for what in (0, 3, 10 ** 30, "", "anna", "a text\nof two rows"):
                with self.subTest(f"{name} {what!r}"):
                    refusal = getattr(errors, name)(what)
                    self.assertEqual(refusal.what, what)
                    self.assertEqual(vars(refusal), {"what": what})

    def test_each_takes_just_one_thing(self):
        for name in ABOVE:
            with self.subTest(name):
                self.assertRaises(TypeError, getattr(errors, name))
                self.assertRaises(TypeError, getattr(errors, name), 1, 2)

    def test_each_is_raised_and_caught_by_its_own_name(self):
        for name in ABOVE:
            with self.subTest(name):
                with self.assertRaises(getattr(errors, name)) as caught:
                    raise getattr(errors, name)(5)
                self.assertEqual(caught.exception.what, 5)
