"""Point 5: the classes of errors, what each keeps, and what each stands under."""

import unittest

from hiddenrates import errors
from hiddenrates.errors import RateError
from samples import THINGS

GIVEN = (
    "InvalidNet",
    "InvalidNumber",
    "InvalidFraction",
    "InvalidPolynomial",
    "InvalidOrder",
    "InvalidTable",
    "InvalidSeries",
    "InvalidRow",
    "InvalidField",
    "InvalidLook",
    "InvalidKind",
    "InvalidChoice",
    "InvalidRenaming",
    "TooMany",
)
INDEX = ("InvalidAssignment", "InvalidFillings", "InvalidText", "InvalidLines")
PLACE = ("InvalidWriting",)
KINDS = [(name, "given") for name in GIVEN] + [(name, "index") for name in INDEX] + [(name, "place") for name in PLACE]


class Errors(unittest.TestCase):
    def test_all_are_there_and_no_others(self):
        classes = [name for name, thing in vars(errors).items() if isinstance(thing, type)]
        self.assertEqual(sorted(classes), sorted(["RateError"] + [name for name, _ in KINDS]))

    def test_keeps_whatever_it_is(self):
        for name, attribute in KINDS:
            kind = getattr(errors, name)
            for thing in THINGS:
                for error in (kind(thing), kind(**{attribute: thing})):
                    self.assertIs(getattr(error, attribute), thing)
                    self.assertEqual(list(vars(error)), [attribute])

    def test_one_thing_under_one_name_alone(self):
        for name, attribute in KINDS:
            kind = getattr(errors, name)
            for other in ("given", "index", "place"):
                if other != attribute:
                    with self.assertRaises(TypeError):
                        kind(**{other: 1})
            with self.assertRaises(TypeError):
                kind()
            with self.assertRaises(TypeError):
                kind(1, 2)

    def test_bases(self):
        self.assertEqual(RateError.__bases__, (ValueError,))
        for name, _ in KINDS:
            self.assertEqual(getattr(errors, name).__bases__, (RateError,))

    def test_none_stands_under_another_one(self):
        for name, _ in KINDS:
            for other, _ in KINDS:
                self.assertEqual(issubclass(getattr(errors, name), getattr(errors, other)), name == other)
            for builtin in (LookupError, KeyError, IndexError, TypeError, ArithmeticError, RuntimeError):
                self.assertFalse(issubclass(getattr(errors, name), builtin))

    def test_rate_error_has_no_attributes(self):
        self.assertEqual(vars(RateError()), {})

    def test_are_caught_under_the_base(self):
        for name, _ in KINDS:
            for base in (RateError, ValueError):
                with self.assertRaises(base):
                    raise getattr(errors, name)(None)


if __name__ == "__main__":
    unittest.main()
