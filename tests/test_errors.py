"""Point 8 and the interface of wishshapes/errors.py."""

import unittest

from wishshapes.errors import BadValue, NotPossible, TextError, TooLarge, WishError

BELOW = (BadValue, TooLarge, NotPossible, TextError)


class TestErrors(unittest.TestCase):
    def test_wish_error_is_a_value_error(self):
        self.assertTrue(issubclass(WishError, ValueError))
        self.assertEqual(WishError.__bases__, (ValueError,))

    def test_all_are_wish_errors(self):
        for kind in BELOW:
            self.assertTrue(issubclass(kind, WishError))
            self.assertIsNot(kind, WishError)

    def test_none_below_is_a_subclass_of_another(self):
        for first in BELOW:
            for second in BELOW:
                self.assertEqual(issubclass(first, second), first is second)

    def test_attributes(self):
        self.assertEqual(BadValue("net").name, "net")
        self.assertEqual(TooLarge("width").what, "width")
        self.assertEqual(NotPossible("two").why, "two")
        error = TextError(6, "the lesser point stands first")
        self.assertEqual((error.column, error.words), (6, "the lesser point stands first"))

    def test_each_object_has_its_own(self):
        first, second = BadValue("net"), BadValue("wishes")
        self.assertEqual((first.name, second.name), ("net", "wishes"))

    def test_they_can_be_raised_and_shown(self):
        for error in (WishError("so"), BadValue("net"), TooLarge("width"), NotPossible("two"), TextError(1, "no")):
            with self.assertRaises(WishError) as caught:
                raise error
            self.assertIs(caught.exception, error)
            self.assertIsInstance(str(error), str)
