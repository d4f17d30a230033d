"""[4]: the errors, with [2] as far as it is about them."""

import unittest

from elderlogs import errors
from elderlogs.errors import (InvalidChain, InvalidCommand, InvalidEdition, InvalidEvent, InvalidFault, InvalidLog,
                              InvalidRow, InvalidText, LogError, NoEdition, NoPlace, Refused)
from tests.values import any_values

ARGUMENTS = [
    (InvalidRow, "word"), (InvalidEdition, "word"), (InvalidChain, "word"),
    (InvalidText, "at"), (InvalidLog, "at"), (InvalidEvent, "at"), (Refused, "at"),
    (NoPlace, "name"), (NoEdition, "at"),
]
PLAIN = [InvalidFault, InvalidCommand]
LOG_ERRORS = [error for error, _ in ARGUMENTS[:7]] + PLAIN


class BaseClasses(unittest.TestCase):
    def test_the_base_class_is_a_value_error(self):
        self.assertEqual(LogError.__bases__, (ValueError,))

    def test_log_errors_derive_directly_from_it(self):
        for error in LOG_ERRORS:
            with self.subTest(error=error.__name__):
                self.assertEqual(error.__bases__, (LogError,))

    def test_none_is_derived_from_another_one(self):
        for error in LOG_ERRORS + [NoPlace, NoEdition]:
            for other in LOG_ERRORS + [NoPlace, NoEdition]:
                with self.subTest(error=error.__name__, other=other.__name__):
                    self.assertEqual(issubclass(error, other), error is other)

    def test_no_place_and_no_edition_derive_directly_from_errors_of_python(self):
        self.assertEqual(NoPlace.__bases__, (KeyError,))
        self.assertEqual(NoEdition.__bases__, (IndexError,))
        self.assertFalse(issubclass(NoPlace, LogError))
        self.assertFalse(issubclass(NoEdition, LogError))

    def test_they_are_defined_in_their_module_with_their_names(self):
        names = ["InvalidRow", "InvalidEdition", "InvalidChain", "InvalidText", "InvalidLog", "InvalidEvent",
                 "InvalidFault", "InvalidCommand", "Refused", "NoPlace", "NoEdition", "LogError"]
        for name in names:
            with self.subTest(name=name):
                self.assertEqual(getattr(errors, name).__name__, name)
                self.assertEqual(getattr(errors, name).__module__, "elderlogs.errors")


class Arguments(unittest.TestCase):
    def test_the_very_thing_is_kept_by_place_and_by_name(self):
        things = any_values() + [object(), {"a": []}, {1}, 1.5, b"x", len, LogError]
        for error, name in ARGUMENTS:
            for thing in things:
                with self.subTest(error=error.__name__, thing=thing):
                    self.assertIs(getattr(error(thing), name), thing)
                    self.assertIs(getattr(error(**{name: thing}), name), thing)

    def test_no_copy_is_made_of_what_may_change(self):
        for error, name in ARGUMENTS:
            with self.subTest(error=error.__name__):
                thing = ["a"]
                told = error(thing)
                thing.append("b")
                self.assertEqual(getattr(told, name), ["a", "b"])

    def test_each_one_keeps_its_own(self):
        for error, name in ARGUMENTS:
            with self.subTest(error=error.__name__):
                first, second = error("a"), error("b")
                self.assertEqual((getattr(first, name), getattr(second, name)), ("a", "b"))

    def test_two_are_made_without_arguments(self):
        for error in PLAIN:
            with self.subTest(error=error.__name__):
                self.assertIsInstance(error(), error)

    def test_they_are_raised_and_caught_as_their_base_classes(self):
        for error, name in ARGUMENTS:
            for base in error.__bases__ + (Exception,):
                with self.subTest(error=error.__name__, base=base.__name__):
                    with self.assertRaises(base) as caught:
                        raise error("x")
                    self.assertIs(caught.exception.__class__, error)
                    self.assertEqual(getattr(caught.exception, name), "x")
        for error in PLAIN:
            with self.assertRaises(ValueError):
                raise error()

    def test_they_are_not_iterable(self):
        for told in [error("abc") for error, _ in ARGUMENTS] + [error() for error in PLAIN]:
            with self.subTest(error=told.__class__.__name__):
                self.assertRaises(TypeError, iter, told)
