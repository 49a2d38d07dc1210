import unittest

from keptbindings import errors

FIELDS = {
    "BadText": ["at"],
    "BadSyntax": ["at"],
    "BadName": ["value"],
    "BadPlace": ["value"],
    "BadValue": ["value"],
    "BadProject": ["place"],
    "BadEdit": ["edit"],
    "Refused": ["reason", "one", "other"],
}


class NoText:
    """A value that cannot be written, compared or hashed."""

    __hash__ = None

    def __repr__(self):
        raise TypeError("no text")

    def __eq__(self, other):
        raise TypeError("no equality")


VALUES = [None, True, 0, -1, 3.5, "", "a", b"a", [], [1], {}, {1: 2}, (), ("m", 0), set(), object(), NoText()]


class ErrorsTest(unittest.TestCase):
    def test_base_is_a_value_error(self):
        self.assertEqual(errors.KeptError.__bases__, (ValueError,))

    def test_each_error_derives_from_the_base_alone(self):
        for name in FIELDS:
            self.assertEqual(getattr(errors, name).__bases__, (errors.KeptError,), name)

    def test_there_are_no_other_errors(self):
        found = [name for name, one in vars(errors).items() if isinstance(one, type)]
        self.assertEqual(sorted(found), sorted([*FIELDS, "KeptError"]))

    def test_fields_by_position(self):
        for name, fields in FIELDS.items():
            for value in VALUES:
                rest = [object() for _ in fields[1:]]
                error = getattr(errors, name)(value, *rest)
                self.assertIs(getattr(error, fields[0]), value)
                for field, given in zip(fields[1:], rest):
                    self.assertIs(getattr(error, field), given)

    def test_fields_by_name(self):
        for name, fields in FIELDS.items():
            for value in VALUES:
                given = {field: object() for field in fields}
                given[fields[-1]] = value
                error = getattr(errors, name)(**given)
                for field in fields:
                    self.assertIs(getattr(error, field), given[field])

    def test_fields_by_position_and_by_name(self):
        error = errors.Refused("pinned", other=("m", 0), one=("m", 13))
        self.assertEqual((error.reason, error.one, error.other), ("pinned", ("m", 13), ("m", 0)))

    def test_each_field_must_be_given(self):
        for name, fields in FIELDS.items():
            with self.assertRaises(TypeError):
                getattr(errors, name)()
            with self.assertRaises(TypeError):
                getattr(errors, name)(*[0] * (len(fields) + 1))

    def test_errors_are_caught_by_the_base(self):
        for name, fields in FIELDS.items():
            with self.assertRaises(errors.KeptError):
                raise getattr(errors, name)(*[None] * len(fields))
