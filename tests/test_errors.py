import inspect
import unittest

from flutterheld import errors
from tests.plain import ODD, deep

FIELDS = {
    "Cut": ("which", "place"), "Early": ("moment",), "Full": (), "NoBody": ("number",), "NoCommand": (),
    "NoFile": ("name",), "NotLetBy": (), "NotMended": (), "Taken": ("name",), "TooMany": ("most",), "Wrong": ("place",),
}


class TestErrors(unittest.TestCase):
    """Promise 11, with 4: what the errors are, and what they keep."""

    def test_all_stand_under_tape_error_alone(self):
        self.assertEqual(errors.TapeError.__bases__, (ValueError,))
        for name in FIELDS:
            self.assertEqual(getattr(errors, name).__bases__, (errors.TapeError,), name)

    def test_there_are_no_others(self):
        found = [name for name, thing in vars(errors).items() if inspect.isclass(thing)]
        self.assertEqual(sorted(found), sorted(list(FIELDS) + ["TapeError"]))

    def test_each_can_be_made_without_arguments(self):
        self.assertIsInstance(errors.TapeError(), ValueError)
        for name, fields in FIELDS.items():
            error = getattr(errors, name)()
            self.assertEqual([getattr(error, field) for field in fields], [None] * len(fields), name)

    def test_each_keeps_the_objects_themselves(self):
        for thing in ODD + (deep(20), [[1], {"a": ()}], errors.Cut(None, True), "x" * 3000):
            for name, fields in FIELDS.items():
                error = getattr(errors, name)(*[thing] * len(fields))
                for field in fields:
                    self.assertIs(getattr(error, field), thing)

    def test_one_of_two_may_be_told(self):
        self.assertEqual([errors.Cut(7).which, errors.Cut(7).place], [7, None])
        self.assertEqual([errors.Cut(None, 7).which, errors.Cut(None, 7).place], [None, 7])

    def test_two_are_kept_apart(self):
        error = errors.Cut(1, 0)
        self.assertEqual([error.which, error.place], [1, 0])

    def test_what_is_kept_is_no_copy(self):
        kept = [1]
        error = errors.NoBody(kept)
        kept.append(2)
        self.assertEqual(error.number, [1, 2])

    def test_they_are_raised_and_caught_by_name(self):
        for name, fields in FIELDS.items():
            made = getattr(errors, name)
            for kind in (made, errors.TapeError, ValueError):
                with self.assertRaises(kind):
                    raise made(*fields)
            others = tuple(getattr(errors, other) for other in FIELDS if other != name)
            self.assertNotIsInstance(made(), others)


if __name__ == "__main__":
    unittest.main()
