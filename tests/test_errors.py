import unittest

from surepatterns import errors
from tests.helper import NO_STRINGS

WITH_MESSAGE = [
    "InvalidPattern", "InvalidWord", "InvalidAssignment", "InvalidNumber", "InvalidLetters", "InvalidChain",
    "NotSure", "NotFree", "EmptyResult", "TooShort", "TooLong", "TooMany", "TooLarge", "NotACertificate",
]
WITH_ARGUMENT = [
    ("InvalidName", "name"), ("NameTaken", "name"), ("UnknownName", "name"), ("Full", "limit"),
    ("InvalidMark", "number"),
]


class Errors(unittest.TestCase):
    def test_base_class(self):
        self.assertEqual(errors.PatternError.__bases__, (ValueError,))

    def test_each_class_is_a_direct_subclass_of_the_base_class_alone(self):
        for name in WITH_MESSAGE + [name for name, _ in WITH_ARGUMENT]:
            with self.subTest(name=name):
                self.assertEqual(getattr(errors, name).__bases__, (errors.PatternError,))
                self.assertEqual(getattr(errors, name).__name__, name)

    def test_message(self):
        for name in WITH_MESSAGE:
            with self.subTest(name=name):
                self.assertEqual(str(getattr(errors, name)("some words")), "some words")

    def test_argument_is_kept_in_the_attribute(self):
        for name, attribute in WITH_ARGUMENT:
            for value in NO_STRINGS + ["", "a", "{0} %s {name}"]:
                with self.subTest(name=name, value=value):
                    error = getattr(errors, name)(value)
                    self.assertIs(getattr(error, attribute), value)
                    self.assertIsInstance(str(error), str)

    def test_errors_can_be_caught_by_their_bases(self):
        with self.assertRaises(ValueError):
            raise errors.Full(12)
        with self.assertRaises(errors.PatternError):
            raise errors.NotFree("the set is not free")
