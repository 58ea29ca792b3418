"""Promise 3 and the section of echofold/errors.py."""

import unittest

from echofold import errors
from tests.samples import any_values

CLASSES = {
    "InvalidTable": (ValueError, ("value",)),
    "InvalidEcho": (ValueError, ("value",)),
    "InvalidSong": (ValueError, ("value",)),
    "InvalidRow": (ValueError, ("value",)),
    "InvalidWishes": (ValueError, ("value",)),
    "InvalidFixed": (ValueError, ("value",)),
    "InvalidPlace": (ValueError, ("value",)),
    "InvalidNumber": (ValueError, ("value",)),
    "InvalidText": (ValueError, ("line",)),
    "InvalidLine": (ValueError, ("value",)),
    "InvalidDeed": (ValueError, ("index",)),
    "OtherLetters": (ValueError, ()),
    "Barred": (LookupError, ()),
    "NoEcho": (IndexError, ("index",)),
    "NoRow": (IndexError, ("number",)),
    "TooLong": (OverflowError, ("limit",)),
    "TooFar": (OverflowError, ("limit",)),
    "NothingToUndo": (RuntimeError, ()),
    "NothingToRedo": (RuntimeError, ()),
}


class TestErrors(unittest.TestCase):
    def for_each_class(self, check):
        for name, (base, fields) in CLASSES.items():
            with self.subTest(name):
                check(getattr(errors, name), base, fields)

    def test_each_class_is_defined_here_and_derives_from_its_base_alone(self):
        def check(error, base, _):
            self.assertEqual(error.__bases__, (base,))
            self.assertEqual(error.__module__, "echofold.errors")
        self.for_each_class(check)

    def test_fields_by_position_are_the_very_objects(self):
        def check(error, _, fields):
            for value in any_values() + [10 ** 5000]:
                made = error(*[value for _ in fields])
                self.assertEqual(list(vars(made)), list(fields))
                for field in fields:
                    self.assertIs(getattr(made, field), value)
        self.for_each_class(check)

    def test_fields_by_name_are_the_very_objects(self):
        def check(error, _, fields):
            for value in any_values() + [10 ** 5000]:
                made = error(**{field: value for field in fields})
                for field in fields:
                    self.assertIs(getattr(made, field), value)
        self.for_each_class(check)

    def test_objects_do_not_share_their_fields(self):
        def check(error, _, fields):
            made = [error(*[number for _ in fields]) for number in (1, 2)]
            self.assertEqual([list(vars(one).values()) for one in made], [[1 for _ in fields], [2 for _ in fields]])
        self.for_each_class(check)

    def test_each_can_be_raised_and_caught_by_its_class_and_by_its_base(self):
        def check(error, base, fields):
            for kind in (error, base):
                with self.assertRaises(kind) as context:
                    raise error(*["x" for _ in fields])
                self.assertIs(type(context.exception), error)
                self.assertIsInstance(str(context.exception), str)
        self.for_each_class(check)

    def test_no_class_is_caught_as_another_one(self):
        def check(error, _, fields):
            kin = [name for name in CLASSES if issubclass(error, getattr(errors, name))]
            self.assertEqual(kin, [error.__name__])
        self.for_each_class(check)

    def test_errors_are_equal_only_to_themselves(self):
        def check(error, _, fields):
            made = error(*[0 for _ in fields])
            self.assertTrue(made == made)
            for value in any_values():
                self.assertFalse(made == value)
                self.assertTrue(made != value)
        self.for_each_class(check)


if __name__ == "__main__":
    unittest.main()
