"""0.3: the errors."""

import unittest

from bymiddles import errors
from tests.plain import STRANGE

WITHOUT = ["BadBook", "NoWork", "NoLot", "NoGroup", "NoNumber", "NoRow", "NoOrder", "NoPrices", "NoBounds", "Over",
           "NoLength", "NothingDone", "NoLine"]
WITH = {"TooMany": "most", "NoRule": "group", "TooLate": "most", "BadText": "line", "NoName": "name"}


def made(name, thing):
    """An error of this class."""
    return getattr(errors, name)(thing) if name in WITH else getattr(errors, name)()


class Errors(unittest.TestCase):
    def test_there_are_eighteen(self):
        self.assertEqual(len(WITHOUT) + len(WITH), 18)
        found = [name for name in vars(errors) if isinstance(vars(errors)[name], type)]
        self.assertEqual(sorted(found), sorted(WITHOUT + list(WITH) + ["MiddleError"]))

    def test_base_classes(self):
        self.assertEqual(errors.MiddleError.__bases__, (ValueError,))
        for name in WITHOUT + list(WITH):
            self.assertEqual(getattr(errors, name).__bases__, (errors.MiddleError,), name)

    def test_each_is_none_of_the_others(self):
        for name in WITHOUT + list(WITH):
            error = made(name, 3)
            for other in WITHOUT + list(WITH):
                self.assertEqual(isinstance(error, getattr(errors, other)), name == other)
            self.assertIsInstance(error, errors.MiddleError)
            self.assertIsInstance(error, ValueError)

    def test_fields_keep_what_was_handed_in(self):
        for name, field in WITH.items():
            for thing in STRANGE:
                error = made(name, thing)
                self.assertIs(getattr(error, field), thing)
                self.assertEqual(vars(error), {field: thing})

    def test_those_without_fields_have_none(self):
        for name in WITHOUT:
            self.assertEqual(vars(made(name, None)), {})

    def test_made_with_just_their_fields(self):
        for name in WITHOUT:
            with self.assertRaises(TypeError):
                getattr(errors, name)(1)
        for name in WITH:
            with self.assertRaises(TypeError):
                getattr(errors, name)()
            with self.assertRaises(TypeError):
                getattr(errors, name)(1, 2)

    def test_raised_and_caught(self):
        for name in WITHOUT + list(WITH):
            with self.assertRaises(errors.MiddleError) as caught:
                raise made(name, (1, 2))
            self.assertEqual(type(caught.exception).__name__, name)

    def test_equal_to_nothing_else(self):
        self.assertFalse(errors.TooMany(3) == errors.TooLate(3))
        self.assertFalse(errors.TooMany(3) == 3)
        self.assertFalse(errors.NoRow() == errors.NoLot())
