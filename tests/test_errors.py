"""The errors: their bases, and their fields by position and by name."""

import unittest

from filteredcopies import errors
from helpers import ANY_VALUES, fields_of

UNDER_COPIES_ERROR = {
    "BadColumn": ["name"], "BadTable": ["at"], "BadRow": ["part"], "BadFilter": ["part"], "BadHabit": ["habit"],
    "BadTarget": ["at"], "BadNetwork": ["part", "at"], "BadOrder": ["order"], "BadPair": ["part"],
    "NotPlain": ["many"], "TooMany": ["size"], "NoRule": ["signal", "changes"],
}
UNDER_LOOKUP_ERROR = {
    "NoRow": ["key"], "NoColumn": ["name"], "NoTarget": ["name"], "NoFeed": ["at"], "NoSignal": ["signal"],
    "NoHolding": ["holding"],
}
UNDER_RUNTIME_ERROR = {
    "Refused": ["message", "row"], "Stopped": ["at", "message", "row"], "Fixed": ["name"], "Broken": ["at"],
}
ALL = {**UNDER_COPIES_ERROR, **UNDER_LOOKUP_ERROR, **UNDER_RUNTIME_ERROR}


class Bases(unittest.TestCase):
    def check_bases(self, names, base):
        for name in names:
            self.assertEqual(getattr(errors, name).__bases__, (base,), name)

    def test_copies_error_is_directly_under_value_error(self):
        self.assertEqual(errors.CopiesError.__bases__, (ValueError,))

    def test_errors_about_arguments_are_directly_under_copies_error(self):
        self.check_bases(UNDER_COPIES_ERROR, errors.CopiesError)

    def test_six_are_directly_under_lookup_error(self):
        self.check_bases(UNDER_LOOKUP_ERROR, LookupError)

    def test_four_are_directly_under_runtime_error(self):
        self.check_bases(UNDER_RUNTIME_ERROR, RuntimeError)

    def test_lookup_and_runtime_errors_are_not_under_copies_error(self):
        for name in [*UNDER_LOOKUP_ERROR, *UNDER_RUNTIME_ERROR]:
            self.assertFalse(issubclass(getattr(errors, name), errors.CopiesError), name)

    def test_each_is_defined_in_the_file_of_errors(self):
        for name in ["CopiesError", *ALL]:
            self.assertEqual(getattr(errors, name).__module__, "filteredcopies.errors")
            self.assertIn("__init__" if name in ALL else "__doc__", vars(getattr(errors, name)))


class Fields(unittest.TestCase):
    def test_fields_by_position_in_the_order_of_the_document(self):
        for name, fields in ALL.items():
            values = [f"value of {field}" for field in fields]
            error = getattr(errors, name)(*values)
            self.assertEqual([getattr(error, field) for field in fields], values, name)

    def test_fields_by_name(self):
        for name, fields in ALL.items():
            values = {field: f"value of {field}" for field in reversed(fields)}
            error = getattr(errors, name)(**values)
            self.assertEqual(fields_of(error), values, name)

    def test_any_value_can_be_a_field(self):
        for name, fields in ALL.items():
            for value in ANY_VALUES:
                error = getattr(errors, name)(*[value for _ in fields])
                self.assertEqual(repr([getattr(error, field) for field in fields]), repr([value for _ in fields]))

    def test_each_field_must_be_passed_and_no_more(self):
        for name, fields in ALL.items():
            for many in (len(fields) - 1, len(fields) + 1):
                with self.assertRaises(TypeError):
                    getattr(errors, name)(*[1] * many)

    def test_later_changes_to_an_argument_have_no_effect(self):
        for name, fields in ALL.items():
            values = [[at, ({"a": [2]}, 3)] for at in range(len(fields))]
            error = getattr(errors, name)(*values)
            for value in values:
                value[1][0]["a"].append(4)
                value[1][0]["b"] = 5
                value.append(6)
            kept = [[at, ({"a": [2]}, 3)] for at in range(len(fields))]
            self.assertEqual([getattr(error, field) for field in fields], kept, name)

    def test_objects_stay_the_same_objects(self):
        message = object()
        self.assertIs(errors.Refused(message, None).message, message)
        self.assertIs(errors.Stopped(1, message, None).message, message)

    def test_they_can_be_raised_and_caught_under_their_base(self):
        with self.assertRaises(ValueError) as caught:
            raise errors.BadNetwork("feeds", -1)
        self.assertEqual((caught.exception.part, caught.exception.at), ("feeds", -1))
        with self.assertRaises(LookupError) as caught:
            raise errors.NoRow(3)
        self.assertEqual(caught.exception.key, 3)
        with self.assertRaises(RuntimeError) as caught:
            raise errors.Broken(at=2)
        self.assertEqual(caught.exception.at, 2)


if __name__ == "__main__":
    unittest.main()
