"""[1.1] to [1.3]: the errors."""

import unittest

from goneunseen import errors
from tests.values import Case, wrong_values

PLAIN = (
    "InvalidTable", "InvalidScheme", "InvalidRow", "InvalidBase", "InvalidCommand", "InvalidHistory", "InvalidPlace",
    "InvalidRule", "InvalidSpot", "InvalidProgram", "InvalidTally", "InvalidMode", "InvalidPaper", "InvalidOperation",
    "ParseError", "Refused")
KEEPING = {
    "KeyTaken": ("Refused", ("row",)),
    "NotLiving": ("Refused", ("row",)),
    "NotGone": ("Refused", ("row",)),
    "Missing": ("Refused", ("table", "wanted")),
    "Referred": ("Refused", ("table", "row")),
    "BrokenRule": ("Refused", ("rule",)),
    "InvalidNumber": ("GoneError", ("number",)),
    "NothingToUndo": ("GoneError", ("many",)),
    "Stopped": ("GoneError", ("index",)),
    "Misled": ("GoneError", ("word", "paper")),
}


class Errors(Case):
    def test_gone_error_is_a_value_error_with_a_message(self):
        self.assertEqual(errors.GoneError.__bases__, (ValueError,))
        self.assertEqual(str(errors.GoneError("so it is")), "so it is")

    def test_plain_errors_come_directly_from_gone_error(self):
        for name in PLAIN:
            made = getattr(errors, name)
            self.assertEqual(made.__bases__, (errors.GoneError,), name)
            self.assertEqual(str(made("so it is")), "so it is")

    def test_keeping_errors_come_directly_from_what_is_told(self):
        for name, (parent, kept) in KEEPING.items():
            self.assertEqual(getattr(errors, name).__bases__, (getattr(errors, parent),), name)

    def test_the_two_others(self):
        self.assertEqual(errors.UnknownName.__bases__, (LookupError,))
        self.assertEqual(errors.TooMany.__bases__, (OverflowError,))

    def test_errors_keep_whatever_they_are_made_with(self):
        kept_by = {name: kept for name, (parent, kept) in KEEPING.items()}
        kept_by["UnknownName"] = ("word",)
        kept_by["TooMany"] = ("limit",)
        for name, kept in kept_by.items():
            for value in wrong_values() + [10 ** 5000, object()]:
                others = [object() for _ in kept[1:]]
                raised = getattr(errors, name)(value, *others)
                for attribute, one in zip(kept, [value, *others]):
                    self.assertIs(getattr(raised, attribute), one)
                self.assertIsInstance(str(raised), str)

    def test_errors_take_exactly_what_is_told(self):
        for name, (parent, kept) in KEEPING.items():
            with self.assertRaises(TypeError):
                getattr(errors, name)(*[1 for _ in kept], 1)
            with self.assertRaises(TypeError):
                getattr(errors, name)(*[1 for _ in kept[1:]])


if __name__ == "__main__":
    unittest.main()
