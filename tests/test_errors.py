"""The interface's row blocksearch.errors: classes, bases, fields."""

import unittest

from blocksearch import errors

UNDER_WRONG = {
    "NoWord": None, "NoText": None, "NoNumber": None, "NoSize": None, "NoLengths": None,
    "NoQuery": None, "NoName": None,
    "NoCode": "at", "NoRow": "at", "NoEntries": "at", "NoQueryText": "at", "NoPages": "at",
    "NoQueries": "at", "NoShelf": "at", "NoDeed": "at",
    "Taken": "number",
}
UNDER_PYTHONS_OWN = {
    "NoPlace": (IndexError, None),
    "NoSlot": (IndexError, None),
    "NoRatio": (ZeroDivisionError, None),
    "Gone": (KeyError, "number"),
    "Held": (KeyError, "number"),
    "NoFile": (LookupError, "name"),
    "Torn": (RuntimeError, "name"),
    "Broken": (RuntimeError, "at"),
    "Full": (OverflowError, "many"),
}


class ErrorTests(unittest.TestCase):
    def check_field(self, name, field):
        kind = getattr(errors, name)
        if field is None:
            self.assertEqual(vars(kind("why")), {})
            return
        self.assertEqual(vars(kind()), {field: None})
        for value in (0, 7, None, "h1", ["any", ("thing",)], 10 ** 399):
            self.assertEqual(vars(kind(value)), {field: value})
            self.assertEqual(vars(kind(**{field: value})), {field: value})

    def test_wrong_is_straight_under_value_error(self):
        self.assertEqual(errors.Wrong.__bases__, (ValueError,))

    def test_classes_straight_under_wrong(self):
        for name, field in UNDER_WRONG.items():
            with self.subTest(name):
                self.assertEqual(getattr(errors, name).__bases__, (errors.Wrong,))
                self.check_field(name, field)

    def test_classes_straight_under_pythons_own(self):
        for name, (base, field) in UNDER_PYTHONS_OWN.items():
            with self.subTest(name):
                self.assertEqual(getattr(errors, name).__bases__, (base,))
                self.check_field(name, field)

    def test_there_are_no_other_errors(self):
        found = {name for name, kind in vars(errors).items() if isinstance(kind, type)}
        self.assertEqual(found, {"Wrong"} | set(UNDER_WRONG) | set(UNDER_PYTHONS_OWN))


if __name__ == "__main__":
    unittest.main()
