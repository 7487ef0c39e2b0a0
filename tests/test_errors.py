"""The interface section dawkline/errors.py."""

import inspect
import unittest

from dawkline import errors

NAMES = ("InvalidAddress", "NoSuchEntry", "Refused", "PowerCut", "Incomplete", "InvalidRecord")


class ErrorClasses(unittest.TestCase):
    def test_each_class_is_defined_in_this_file(self):
        for name in ("MailError",) + NAMES:
            found = getattr(errors, name)
            self.assertTrue(inspect.isclass(found), name)
            self.assertEqual((found.__name__, found.__module__), (name, "dawkline.errors"))

    def test_mail_error_is_a_value_error(self):
        self.assertEqual(errors.MailError.__bases__, (ValueError,))

    def test_each_other_class_derives_from_mail_error(self):
        for name in NAMES:
            found = getattr(errors, name)
            self.assertIsNot(found, errors.MailError)
            self.assertTrue(issubclass(found, errors.MailError), name)

    def test_no_class_derives_from_another_of_the_list(self):
        for name in NAMES:
            for other in NAMES:
                related = issubclass(getattr(errors, name), getattr(errors, other))
                self.assertEqual(related, name == other, (name, other))

    def test_each_class_can_be_raised_with_its_arguments(self):
        for name in ("MailError", "InvalidAddress", "NoSuchEntry", "Refused", "PowerCut"):
            with self.assertRaises(errors.MailError) as caught:
                raise getattr(errors, name)("a reason")
            self.assertIn("a reason", str(caught.exception))


class Places(unittest.TestCase):
    def test_the_place_is_kept(self):
        for made in (errors.Incomplete, errors.InvalidRecord):
            self.assertEqual(list(inspect.signature(made).parameters), ["place"])
            for place in (0, 1, 17, 10 ** 20):
                self.assertEqual(made(place).place, place)
                self.assertEqual(made(place=place).place, place)

    def test_the_place_of_a_caught_error(self):
        for made in (errors.Incomplete, errors.InvalidRecord):
            with self.assertRaises(ValueError) as caught:
                raise made(5)
            self.assertIs(type(caught.exception), made)
            self.assertEqual(caught.exception.place, 5)

    def test_a_place_is_needed(self):
        for made in (errors.Incomplete, errors.InvalidRecord):
            with self.assertRaises(TypeError):
                made()


if __name__ == "__main__":
    unittest.main()
