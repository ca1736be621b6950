import copy
import unittest

from joinshelf import errors
from tests.things import FIELDS, odd_things


class ErrorsTest(unittest.TestCase):

    def test_all_derive_directly(self):
        self.assertEqual(errors.ShelfError.__bases__, (ValueError,))
        for name in FIELDS:
            self.assertEqual(getattr(errors, name).__bases__, (errors.ShelfError,), name)
            self.assertEqual(getattr(errors, name).__module__, "joinshelf.errors")

    def test_no_others(self):
        names = [name for name, value in vars(errors).items() if isinstance(value, type)]
        self.assertEqual(sorted(names), sorted(["ShelfError", *FIELDS]))

    def test_fields_keep_whatever_is_passed(self):
        for name, fields in FIELDS.items():
            for thing in odd_things():
                made = getattr(errors, name)(*[thing for _ in fields])
                self.assertEqual(sorted(vars(made)), sorted(fields))
                for field in fields:
                    self.assertIs(getattr(made, field), thing)

    def test_fields_in_their_order(self):
        for name in ("BadFeed", "BadTask"):
            made = getattr(errors, name)("batches", 3)
            self.assertEqual((made.part, made.at), ("batches", 3))
        self.assertEqual(errors.TooMany(12).most, 12)
        self.assertEqual(errors.NoAnswer(4).hour, 4)
        self.assertEqual(errors.BadText(5).line, 5)
        self.assertEqual(errors.NoName("abc").name, "abc")

    def test_made_with_just_their_fields(self):
        for name, fields in FIELDS.items():
            with self.assertRaises(TypeError):
                getattr(errors, name)(*[0 for _ in fields], 0)
            if fields:
                with self.assertRaises(TypeError):
                    getattr(errors, name)(*[0 for _ in fields[1:]])

    def test_caught_as_value_error_and_copied(self):
        for name, fields in FIELDS.items():
            made = getattr(errors, name)(*fields)
            with self.assertRaises(ValueError):
                raise made
            self.assertEqual(vars(copy.deepcopy(made)), vars(made))

    def test_equal_to_nothing_else(self):
        for name, fields in FIELDS.items():
            made = getattr(errors, name)(*fields)
            for thing in odd_things():
                self.assertFalse(made == thing)


if __name__ == "__main__":
    unittest.main()
