"""The error classes: points [1] and [2]."""

import unittest

from cutweave import errors

WITH_AT = ("BadValue", "BadNet", "BadStep", "BadCut", "BadClaim", "BadPaper", "BadLine")
ATTRIBUTES = {name: "at" for name in WITH_AT} | {"TooMany": "word", "NothingThere": "name"}


def error_class(name):
    return getattr(errors, name)


class Errors(unittest.TestCase):

    def test_base(self):
        self.assertEqual(errors.CutError.__bases__, (Exception,))
        with self.assertRaises(errors.CutError):
            raise errors.CutError()

    def test_each_is_directly_under_the_base_alone(self):
        for name in ATTRIBUTES:
            self.assertEqual(error_class(name).__name__, name)
            self.assertEqual(error_class(name).__bases__, (errors.CutError,))
            self.assertFalse(issubclass(error_class(name), (ValueError, LookupError, ArithmeticError)))

    def test_none_is_under_another(self):
        for name in ATTRIBUTES:
            for other in ATTRIBUTES:
                if other != name:
                    self.assertFalse(issubclass(error_class(name), error_class(other)), (name, other))

    def test_keeps_its_argument_by_position(self):
        for name in WITH_AT:
            for at in (0, 1, 59, 10 ** 5000):
                self.assertEqual(vars(error_class(name)(at)), {"at": at})
        self.assertEqual(vars(errors.TooMany("cuts")), {"word": "cuts"})
        self.assertEqual(vars(errors.NothingThere("some")), {"name": "some"})

    def test_keeps_its_argument_by_name(self):
        for name in WITH_AT:
            self.assertEqual(error_class(name)(at=3).at, 3)
        self.assertEqual(errors.TooMany(word="cuts").word, "cuts")
        self.assertEqual(errors.NothingThere(name="avoid").name, "avoid")

    def test_asks_for_its_argument(self):
        for name in ATTRIBUTES:
            with self.assertRaises(TypeError):
                error_class(name)()
            with self.assertRaises(TypeError):
                error_class(name)(0, 1)

    def test_is_caught_by_its_own_name_and_by_the_base(self):
        for name in ATTRIBUTES:
            for caught in (error_class(name), errors.CutError):
                try:
                    raise error_class(name)("x")
                except caught as error:
                    self.assertEqual(getattr(error, ATTRIBUTES[name]), "x")


if __name__ == "__main__":
    unittest.main()
