"""Errors: their names, fields and base class."""

import unittest

from nolothome import errors

FIELDS = {
    "BadWheels": ("index",), "BadStep": (), "BadRow": ("index",), "BadNumber": (), "NotHome": (), "BadText": (),
    "BadLine": ("line", "word"), "NoStep": (), "TooMany": ("most",),
}


class ErrorsTest(unittest.TestCase):
    def test_base_class(self):
        self.assertEqual(errors.StepError.__bases__, (ValueError,))
        self.assertEqual(errors.StepError.__module__, "nolothome.errors")

    def test_direct_subclasses(self):
        for name in FIELDS:
            with self.subTest(name=name):
                kind = getattr(errors, name)
                self.assertEqual(kind.__bases__, (errors.StepError,))
                self.assertEqual((kind.__name__, kind.__module__), (name, "nolothome.errors"))

    def test_fields_are_set_when_created(self):
        for name, fields in FIELDS.items():
            with self.subTest(name=name):
                values = list(range(5, 5 + len(fields)))
                raised = getattr(errors, name)(*values)
                self.assertEqual(vars(raised), dict(zip(fields, values)))

    def test_index_may_be_none(self):
        self.assertIsNone(errors.BadWheels(None).index)
        self.assertIsNone(errors.BadRow(None).index)


if __name__ == "__main__":
    unittest.main()
