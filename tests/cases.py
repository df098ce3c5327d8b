"""What the tests of several modules ask for."""

import inspect
import unittest

from hydrahouse.errors import HydraError


class Case(unittest.TestCase):
    def assert_refused(self, error, function, *arguments):
        for wanted in [error, HydraError, ValueError]:
            with self.assertRaises(wanted) as caught:
                function(*arguments)
            self.assertIs(caught.exception.__class__, error)

    def assert_arguments(self, module, expected):
        for name, arguments in expected.items():
            with self.subTest(name=name):
                self.assertEqual(str(inspect.signature(getattr(module, name))), arguments)

    def assert_unchanged(self, function, *arguments):
        before = repr(arguments)
        first = function(*arguments)
        self.assertEqual(repr(arguments), before)
        self.assertEqual(function(*arguments), first)

    def assert_own_list(self, function, *arguments):
        told = function(*arguments)
        self.assertIs(told.__class__, list)
        kept = list(told)
        again = function(*arguments)
        self.assertIsNot(again, told)
        again.append("more")
        again[0] = "other"
        self.assertEqual(told, kept)
        self.assertEqual(function(*arguments), kept)
