"""The errors: what they store, and as what they are caught."""

import unittest

from soonknown import changeerrors, errors
from soonknown.errors import SchemaError

ATTRIBUTES = {
    "BadDocument": "position", "BadPrefix": "position", "NoRoom": "length", "NoSuchCompletion": "count",
    "NoPath": "path", "NotOffered": "position", "TooManyStates": "bound", "BadSchema": "position",
    "TooFar": "number", "BadCommand": "command", "BadScript": "steps", "WrongText": "wrong", "NotInside": "wrong",
    "NoSuchText": "count", "NothingBetween": "pair", "NoTexts": "wrong",
}
CHANGE_ERRORS = ["BadScript", "WrongText", "NotInside", "NoSuchText", "NothingBetween", "NoTexts"]


def error_class(name):
    """The class of an error, from the file that has it."""
    return getattr(changeerrors if name in CHANGE_ERRORS else errors, name)



class Errors(unittest.TestCase):
    def test_argument_is_stored_itself(self):
        for name, attribute in ATTRIBUTES.items():
            for stored in (0, -1, True, None, "abc", (1, "a"), ["a"], {"a": [1]}):
                with self.subTest(name=name, stored=stored):
                    error = error_class(name)
                    self.assertIs(getattr(error(stored), attribute), stored)
                    self.assertIs(getattr(error(**{attribute: stored}), attribute), stored)

    def test_argument_is_needed_under_this_name(self):
        for name in ATTRIBUTES:
            with self.subTest(name=name):
                error = error_class(name)
                self.assertRaises(TypeError, error)
                self.assertRaises(TypeError, error, 1, 2)
                self.assertRaises(TypeError, lambda: error(other=1))

    def test_direct_subclasses(self):
        self.assertEqual(SchemaError.__bases__, (ValueError,))
        for name in ATTRIBUTES:
            with self.subTest(name=name):
                self.assertEqual(error_class(name).__bases__, (SchemaError,))

    def test_defined_in_their_files(self):
        for name in ATTRIBUTES:
            file = "changeerrors" if name in CHANGE_ERRORS else "errors"
            self.assertEqual(error_class(name).__module__, "soonknown." + file)

    def test_caught_as_itself_and_its_bases(self):
        for name, attribute in ATTRIBUTES.items():
            error = error_class(name)
            for base in (error, SchemaError, ValueError):
                for made in (error(7), error(**{attribute: 7})):
                    with self.subTest(name=name, base=base):
                        with self.assertRaises(base) as caught:
                            raise made
                        self.assertIs(caught.exception, made)
                        self.assertEqual(getattr(caught.exception, attribute), 7)

    def test_not_caught_as_another_class(self):
        for name in ATTRIBUTES:
            for other in ATTRIBUTES:
                if other != name:
                    with self.subTest(name=name, other=other):
                        self.assertFalse(issubclass(error_class(name), error_class(other)))
                        self.assertNotIsInstance(error_class(name)(1), error_class(other))


if __name__ == "__main__":
    unittest.main()
