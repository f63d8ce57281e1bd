"""Point 2: the exceptions of the program."""

import unittest

from latelaw import errors
from latelaw.errors import BadCommand, BadWork, LateError, NoRate, OutOfRange, TooLong

KINDS = (BadWork, OutOfRange, NoRate, TooLong, BadCommand)


class Errors(unittest.TestCase):
    def test_base_class_is_a_value_error(self):
        self.assertTrue(issubclass(LateError, ValueError))
        self.assertIsNot(LateError, ValueError)

    def test_each_kind_derives_from_the_base_class_alone(self):
        for kind in KINDS:
            self.assertEqual(kind.__bases__, (LateError,))

    def test_str_returns_the_text(self):
        for kind in (LateError,) + KINDS:
            for text in ("a text", "", "two\nlines", "50%s {x}"):
                self.assertEqual(str(kind(text)), text)

    def test_kinds_are_caught_by_their_names_and_by_the_base_class(self):
        for kind in KINDS:
            for caught in (kind, LateError, ValueError):
                with self.assertRaises(caught):
                    raise kind("why")

    def test_kinds_are_defined_in_their_file(self):
        for kind in (LateError,) + KINDS:
            self.assertEqual(kind.__module__, "latelaw.errors")
            self.assertIs(getattr(errors, kind.__name__), kind)


if __name__ == "__main__":
    unittest.main()
