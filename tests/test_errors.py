import unittest

from likespite import errors
from likespite.errors import FolkError

FIELDS = {
    "BadWeb": ("part",), "BadRules": ("folk",), "BadState": (), "BadFolk": (), "BadLot": (), "BadRing": (),
    "BadNumber": (), "BadWord": (), "HasOdd": (), "HasRing": (), "NoEven": (), "NoOdd": (), "BadStep": (),
    "TooMany": ("most",), "BadLine": ("line",), "BadHeld": (),
}


class Errors(unittest.TestCase):
    def test_base(self):
        self.assertEqual(FolkError.__bases__, (ValueError,))

    def test_classes(self):
        for name in FIELDS:
            with self.subTest(name=name):
                self.assertEqual(getattr(errors, name).__bases__, (FolkError,))

    def test_no_others(self):
        found = [name for name, value in vars(errors).items() if isinstance(value, type)]
        self.assertEqual(sorted(found), sorted([*FIELDS, "FolkError"]))

    def test_fields(self):
        for name, fields in FIELDS.items():
            for value in ("looks", 3, 0, None):
                with self.subTest(name=name, value=value):
                    error = getattr(errors, name)(*[value for _ in fields])
                    self.assertEqual(vars(error), {field: value for field in fields})

    def test_fields_by_name(self):
        for name, fields in FIELDS.items():
            with self.subTest(name=name):
                error = getattr(errors, name)(**{field: 2 for field in fields})
                self.assertEqual(vars(error), {field: 2 for field in fields})

    def test_raised_and_caught(self):
        for name, fields in FIELDS.items():
            with self.subTest(name=name):
                made = getattr(errors, name)(*[1 for _ in fields])
                for caught in (FolkError, ValueError):
                    with self.assertRaises(caught) as kept:
                        raise made
                    self.assertIs(kept.exception, made)

    def test_they_are_unlike(self):
        self.assertEqual(len({getattr(errors, name) for name in FIELDS}), len(FIELDS))


if __name__ == "__main__":
    unittest.main()
