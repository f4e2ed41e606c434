"""The errors of the interface, and promise 2 on them."""

import unittest

from sectionwise import errors
from sectionwise.errors import (
    InvalidArgument, InvalidFamily, InvalidLayout, InvalidProgram, InvalidSection, InvalidTriplet, LimitExceeded,
    SectionError,
)

WITH_PART = [InvalidTriplet, InvalidSection, InvalidFamily, InvalidLayout, InvalidArgument]


class Errors(unittest.TestCase):

    def test_each_stands_directly_under_section_error(self):
        self.assertEqual(SectionError.__bases__, (ArithmeticError,))
        for kind in WITH_PART + [InvalidProgram, LimitExceeded]:
            self.assertEqual(kind.__bases__, (SectionError,), kind)
        self.assertEqual(str(SectionError("told")), "told")

    def test_each_is_constructed_from_its_attributes_by_place(self):
        for kind in WITH_PART:
            self.assertEqual(kind("bounds").part, "bounds")
        self.assertEqual(InvalidProgram((2, 1), "row").at, (2, 1))
        self.assertEqual(InvalidProgram((2, 1), "row").part, "row")
        self.assertEqual(LimitExceeded(5000).limit, 5000)

    def test_each_is_constructed_from_its_attributes_by_name(self):
        for kind in WITH_PART:
            self.assertEqual(kind(part="inner").part, "inner")
        error = InvalidProgram(part="arrays", at=None)
        self.assertEqual((error.at, error.part), (None, "arrays"))
        self.assertEqual(LimitExceeded(limit=300).limit, 300)

    def test_attributes_are_asked_for(self):
        for kind in WITH_PART + [InvalidProgram, LimitExceeded]:
            with self.assertRaises(TypeError):
                kind()
        with self.assertRaises(TypeError):
            InvalidProgram("row")

    def test_each_is_raised_and_caught_as_what_it_is(self):
        for error in [kind("one") for kind in WITH_PART] + [InvalidProgram(0, "mask"), LimitExceeded(4)]:
            for kind in WITH_PART + [InvalidProgram, LimitExceeded]:
                self.assertEqual(isinstance(error, kind), type(error) is kind)
            with self.assertRaises(SectionError) as caught:
                raise error
            self.assertIs(caught.exception, error)

    def test_each_has_its_own_init_and_is_defined_in_its_file(self):
        for kind in WITH_PART + [InvalidProgram, LimitExceeded]:
            self.assertIn("__init__", vars(kind))
        for name in ["SectionError", "InvalidProgram", "LimitExceeded"] + [kind.__name__ for kind in WITH_PART]:
            self.assertEqual(getattr(errors, name).__module__, "sectionwise.errors")


if __name__ == "__main__":
    unittest.main()
