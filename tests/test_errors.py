"""[0.17]: the errors."""

import unittest

from letterrules import errors
from support import VALUES, Case

WITH_MESSAGE = (
    "InvalidName", "InvalidOrder", "InvalidRun", "InvalidPattern", "InvalidRule", "InvalidMarking", "InvalidTransport",
    "InvalidOperation", "ParseError", "InvalidCommand",
)
WITH_VALUE = {
    "InvalidNumber": (IndexError, "value"),
    "UnknownName": (KeyError, "name"),
    "TooMany": (OverflowError, "limit"),
    "NoOrder": (ArithmeticError, "ring"),
    "Held": (RuntimeError, "step"),
    "NothingToUndo": (LookupError, "many"),
}


class ErrorTests(Case):
    def test_direct_bases(self):
        self.assertEqual(errors.LetterError.__bases__, (ValueError,))
        for name in WITH_MESSAGE:
            self.assertEqual(getattr(errors, name).__bases__, (errors.LetterError,), name)
        for name, (base, _) in WITH_VALUE.items():
            self.assertEqual(getattr(errors, name).__bases__, (base,), name)

    def test_no_error_is_another_one(self):
        made = {name: getattr(errors, name)("told") for name in (*WITH_MESSAGE, *WITH_VALUE, "LetterError")}
        for name, error in made.items():
            for other in made:
                wanted = other == name or (other == "LetterError" and name in WITH_MESSAGE)
                self.assertIs(isinstance(error, getattr(errors, other)), wanted, (name, other))

    def test_all_are_defined_there(self):
        for name in (*WITH_MESSAGE, *WITH_VALUE, "LetterError"):
            self.assertEqual(getattr(errors, name).__module__, "letterrules.errors")

    def test_messages(self):
        for name in (*WITH_MESSAGE, "LetterError"):
            self.assertEqual(str(getattr(errors, name)("what is wrong")), "what is wrong")

    def test_values_are_kept(self):
        for name, (_, attribute) in WITH_VALUE.items():
            for value in VALUES:
                error = getattr(errors, name)(value)
                self.assertIs(getattr(error, attribute), value, name)
                self.assertEqual(list(vars(error)), [attribute])

    def test_raised_and_caught(self):
        for name, (base, attribute) in WITH_VALUE.items():
            with self.assertRaises(base) as held:
                raise getattr(errors, name)((1, ["a"]))
            self.assertEqual(getattr(held.exception, attribute), (1, ["a"]))


if __name__ == "__main__":
    unittest.main()
