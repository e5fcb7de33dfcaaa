"""Tests of marktopples.errors."""

import inspect
import unittest

from marktopples import errors

# The name of each error that derives from FallError, and its field, if it has one.
FALL_ERRORS = {
    "TooLarge": "bound",
    "BadPushes": "index",
    "NoTable": "pair",
    "Conflict": "pair",
    "NoLast": "mark",
    "BadTree": "error",
    "Busy": None,
    "TooManyEdits": None,
    "BadTick": "value",
    "TooManyPushes": None,
    "BadLength": "value",
    "NothingToUndo": None,
    "BadEdits": None,
    "BadEdit": "index",
    "Rejected": "index",
    "BadMarks": "value",
    "BadTable": "value",
    "OtherTree": None,
    "BadWindows": "value",
    "Misfit": "mark",
    "BadText": "index",
}
LOOKUP_ERRORS = {"NoMark": "value", "NoPush": "value", "NoRow": "value", "NoVersion": "value"}
ALL_ERRORS = {**FALL_ERRORS, **LOOKUP_ERRORS}


def field_values():
    """Return values of every kind; the lists and dicts are new ones."""
    return [
        None, True, False, 0, 1, -1, 12, 10 ** 40 - 1, "", "tree", (), (0, 1), (None, "tree"), (1, "row"),
        [], [0, [1]], {}, {"a": [1]}, ((0, 2), [1, 3]), errors.Busy(),
    ]


class BaseTest(unittest.TestCase):

    def test_fall_error_derives_from_value_error(self):
        self.assertEqual(errors.FallError.__bases__, (ValueError,))

    def test_fall_errors(self):
        for name in FALL_ERRORS:
            with self.subTest(name=name):
                error = getattr(errors, name)
                self.assertEqual(error.__bases__, (errors.FallError,))
                self.assertFalse(issubclass(error, LookupError))

    def test_lookup_errors(self):
        for name in LOOKUP_ERRORS:
            with self.subTest(name=name):
                error = getattr(errors, name)
                self.assertEqual(error.__bases__, (LookupError,))
                self.assertFalse(issubclass(error, ValueError))

    def test_none_derives_from_another_one_of_the_list(self):
        for name in ALL_ERRORS:
            for other in ALL_ERRORS:
                if name != other:
                    with self.subTest(name=name, other=other):
                        self.assertFalse(issubclass(getattr(errors, name), getattr(errors, other)))

    def test_all_are_defined_in_the_file(self):
        for name in ["FallError", *ALL_ERRORS]:
            with self.subTest(name=name):
                error = getattr(errors, name)
                self.assertTrue(inspect.isclass(error))
                self.assertEqual(error.__name__, name)
                self.assertEqual(error.__module__, "marktopples.errors")


class FieldTest(unittest.TestCase):

    def test_field_is_exactly_what_was_passed(self):
        for name, field in ALL_ERRORS.items():
            for value in field_values() if field else []:
                with self.subTest(name=name, value=value):
                    error = getattr(errors, name)(value)
                    self.assertIs(getattr(error, field), value)

    def test_field_keeps_its_value_when_raised(self):
        for name, field in ALL_ERRORS.items():
            for value in field_values() if field else []:
                with self.subTest(name=name, value=value):
                    with self.assertRaises(getattr(errors, name)) as caught:
                        raise getattr(errors, name)(value)
                    self.assertIs(getattr(caught.exception, field), value)

    def test_two_errors_have_fields_of_their_own(self):
        for name, field in ALL_ERRORS.items():
            if field:
                with self.subTest(name=name):
                    one = getattr(errors, name)(1)
                    other = getattr(errors, name)(True)
                    self.assertIs(getattr(one, field), 1)
                    self.assertIs(getattr(other, field), True)

    def test_field_is_not_changed(self):
        for name, field in ALL_ERRORS.items():
            if field:
                with self.subTest(name=name):
                    value = {"a": [1, (2, [3])]}
                    getattr(errors, name)(value)
                    self.assertEqual(value, {"a": [1, (2, [3])]})

    def test_errors_without_a_field(self):
        for name, field in ALL_ERRORS.items():
            if field is None:
                with self.subTest(name=name):
                    with self.assertRaises(errors.FallError) as caught:
                        raise getattr(errors, name)()
                    self.assertIs(type(caught.exception), getattr(errors, name))

    def test_lookup_errors_are_caught_as_lookup_errors(self):
        for name in LOOKUP_ERRORS:
            with self.subTest(name=name):
                with self.assertRaises(LookupError):
                    raise getattr(errors, name)(7)


if __name__ == "__main__":
    unittest.main()
