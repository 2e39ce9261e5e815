"""Section 2 and the interface's list of errors."""

import unittest

from leastahead import errors
from tests.samples import FAR, STRANGE

ARGUMENTS = {
    "NoState": "state", "NoInput": "x", "NoOutput": "y", "Refused": "index", "NoNumber": "number",
    "NoAnswer": "outputs", "TooMany": "limit", "NoRelation": "relation", "NoWord": "length",
    "NotLong": "relation", "NotEnough": "ahead", "BadTable": "table", "BadCertificate": "value",
    "TooLarge": "limit", "BadEntry": "entry", "BadText": "line", "BadJudge": "judge", "BadLine": "line",
    "BadWord": "word",
}
PLAIN = ("Won", "Lost", "OtherLetters", "NothingToUndo", "NoConverter")
ALL = tuple(ARGUMENTS) + PLAIN


def created(name):
    error_class = getattr(errors, name)
    return error_class(7) if name in ARGUMENTS else error_class()


class ErrorClasses(unittest.TestCase):
    def test_the_interface_lists_twenty_four(self):
        self.assertEqual(len(set(ALL)), 24)
        defined = [name for name, value in vars(errors).items() if isinstance(value, type)]
        self.assertEqual(sorted(defined), sorted(ALL + ("AheadError",)))

    def test_direct_base_classes(self):
        self.assertEqual(errors.AheadError.__bases__, (ValueError,))
        for name in ALL:
            self.assertEqual(getattr(errors, name).__bases__, (errors.AheadError,), name)

    def test_each_is_one_of_its_bases_and_of_no_other(self):
        for name in ALL:
            error = created(name)
            for kind in (errors.AheadError, ValueError, Exception):
                self.assertIsInstance(error, kind)
            for kind in (KeyError, LookupError, IndexError, TypeError, RuntimeError, ArithmeticError):
                self.assertNotIsInstance(error, kind)
            for other in ALL:
                self.assertEqual(isinstance(error, getattr(errors, other)), other == name, (name, other))

    def test_the_base_is_none_of_the_others(self):
        for name in ALL:
            self.assertNotIsInstance(errors.AheadError(), getattr(errors, name))

    def test_raised_and_caught_by_each_class(self):
        for name in ALL:
            for kind in (getattr(errors, name), errors.AheadError, ValueError):
                error = created(name)
                with self.assertRaises(kind) as caught:
                    raise error
                self.assertIs(caught.exception, error)


class KeptArguments(unittest.TestCase):
    values = STRANGE + (0, 1, 7, (), (0, 1), FAR)

    def test_by_position(self):
        for name, argument in ARGUMENTS.items():
            for value in self.values:
                error = getattr(errors, name)(value)
                self.assertIs(getattr(error, argument), value, (name, value))

    def test_by_name(self):
        for name, argument in ARGUMENTS.items():
            for value in self.values:
                error = getattr(errors, name)(**{argument: value})
                self.assertIs(getattr(error, argument), value, (name, value))

    def test_nothing_else_is_kept(self):
        for name, argument in ARGUMENTS.items():
            self.assertEqual(vars(getattr(errors, name)(7)), {argument: 7})
        for name in PLAIN:
            self.assertEqual(vars(getattr(errors, name)()), {})

    def test_two_errors_keep_their_own(self):
        for name, argument in ARGUMENTS.items():
            one, other = getattr(errors, name)(1), getattr(errors, name)(2)
            self.assertEqual([getattr(one, argument), getattr(other, argument)], [1, 2])

    def test_the_argument_is_needed(self):
        for name in ARGUMENTS:
            with self.assertRaises(TypeError):
                getattr(errors, name)()

    def test_an_attribute_is_an_objects_own(self):
        for name, argument in ARGUMENTS.items():
            self.assertFalse(hasattr(getattr(errors, name), argument), name)
