"""The errors: 2.2, and the interface's section on them."""

import inspect
import unittest

from bulkload import errors

FIELDS = {
    "BadKind": ("value",), "BadValue": ("value",), "BadText": ("index",), "Unfit": ("cause",),
    "BadFormat": ("setting",), "BadHeader": ("cause",), "BadRow": ("number", "index"), "BadSummary": (),
    "BadExpression": (), "BadFields": ("index",), "BadNumber": (), "BadRejects": ("index",),
    "BadSchema": ("place", "rule"), "BadJob": ("place", "rule"), "NoTable": ("place",),
    "NotRejected": ("number",), "NoRecord": ("number",), "BadName": ("value",), "NoFile": ("value",),
    "BadLength": ("value",), "TooMany": ("most",), "NoRoom": ("characters",), "BadFiles": ("value",),
    "Busy": ("value",), "Over": ("word",), "NoLoad": ("value",), "BadCuts": ("value",), "BadPart": ("value",),
    "NotReady": ("place",), "Ready": ("place",), "BadCourse": ("fault", "unit", "run", "place"),
}


class ErrorsTest(unittest.TestCase):
    def test_all_are_there(self):
        found = [name for name, value in vars(errors).items() if inspect.isclass(value)]
        self.assertEqual(sorted(found), sorted([*FIELDS, "BulkError"]))

    def test_bases(self):
        self.assertEqual(errors.BulkError.__bases__, (ValueError,))
        for name in FIELDS:
            self.assertEqual(getattr(errors, name).__bases__, (errors.BulkError,), name)

    def test_parameters(self):
        for name, fields in FIELDS.items():
            self.assertEqual(tuple(inspect.signature(getattr(errors, name)).parameters), fields, name)

    def test_fields_by_position_and_by_name(self):
        values = ([1], None, "x", (True,))
        for name, fields in FIELDS.items():
            given = dict(zip(fields, values))
            by_position = getattr(errors, name)(*values[:len(fields)])
            by_name = getattr(errors, name)(**given)
            for error in (by_position, by_name):
                self.assertEqual(vars(error), given, name)
                for field in fields:
                    self.assertIs(getattr(error, field), given[field])

    def test_wrong_number_of_fields(self):
        for name, fields in FIELDS.items():
            with self.assertRaises(TypeError, msg=name):
                getattr(errors, name)(*range(len(fields) + 1))
            if fields:
                with self.assertRaises(TypeError, msg=name):
                    getattr(errors, name)()

    def test_raised_and_caught(self):
        for name, fields in FIELDS.items():
            for kind in (getattr(errors, name), errors.BulkError, ValueError):
                with self.assertRaises(kind):
                    raise getattr(errors, name)(*range(len(fields)))


if __name__ == "__main__":
    unittest.main()
