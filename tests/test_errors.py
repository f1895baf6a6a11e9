"""Promise 3 and the errors of the interface."""

import unittest

from plaindoors import errors
from plaindoors.errors import (
    NoDeed, NoDoor, NoForm, NoLine, NoPart, NoStep, NoText, NothingToUndo, PlainError,
)

FIELDS = ((NoStep, "index"), (NoDeed, "index"), (NoForm, "form"), (NoPart, "part"), (NoLine, "line"))
WORDED = (NoText, NoDoor, NothingToUndo)


class Awkward:
    """A value that cannot be compared, hashed, shown or tested."""

    __hash__ = None

    def __eq__(self, other):
        raise RuntimeError("not compared")

    def __repr__(self):
        raise RuntimeError("not shown")

    def __bool__(self):
        raise RuntimeError("not tested")


class ErrorsTest(unittest.TestCase):
    def test_bases(self):
        self.assertEqual(PlainError.__bases__, (ValueError,))
        for error in WORDED + tuple(error for error, _ in FIELDS):
            self.assertEqual(error.__bases__, (PlainError,))

    def test_all_are_defined_there(self):
        for error in WORDED + (PlainError,) + tuple(error for error, _ in FIELDS):
            self.assertEqual(error.__module__, "plaindoors.errors")
            self.assertIs(getattr(errors, error.__name__), error)

    def test_one_string(self):
        for error in WORDED + (PlainError,):
            self.assertEqual(str(error("some words")), "some words")

    def test_fields_hold_any_value(self):
        values = (0, 6, -1, True, None, "a", "", (), [1], {"a": 1}, 1.5, b"x", object(), Awkward())
        for error, field in FIELDS:
            for value in values:
                self.assertIs(getattr(error(value), field), value)
                self.assertIs(getattr(error(**{field: value}), field), value)

    def test_a_field_error_can_be_shown(self):
        for error, _ in FIELDS:
            self.assertIsInstance(str(error(Awkward())), str)

    def test_fields_are_required(self):
        for error, _ in FIELDS:
            with self.assertRaises(TypeError):
                error()
            with self.assertRaises(TypeError):
                error(1, 2)

    def test_caught_as_value_errors(self):
        for error, _ in FIELDS:
            with self.assertRaises(ValueError):
                raise error(1)
        for error in WORDED:
            with self.assertRaises(PlainError):
                raise error("words")


if __name__ == "__main__":
    unittest.main()
