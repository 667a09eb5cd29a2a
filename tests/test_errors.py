"""Point 2: the error classes."""

import unittest

from keptroutes import errors

PLAIN = (
    'InvalidMap', 'InvalidPrefix', 'UnknownRow', 'InvalidAddress', 'InvalidPair', 'InvalidPrices', 'UnknownLeaf',
    'UnknownVersion', 'NothingToUndo', 'PlanFinished', 'InvalidName', 'DuplicateName', 'UnknownName', 'UnknownMark',
    'InvalidCommand', 'InvalidLine',
)
ALL = ('ParseError', 'NoSolution') + PLAIN


def made(name):
    """Return an instance of the error class of this name."""
    if name == 'ParseError':
        return errors.ParseError(3)
    if name == 'NoSolution':
        return errors.NoSolution('01')
    return getattr(errors, name)('why')


class ErrorTest(unittest.TestCase):
    def test_base_is_a_value_error(self):
        self.assertEqual(errors.RouteError.__bases__, (ValueError,))
        self.assertIsInstance(errors.RouteError('why'), ValueError)

    def test_each_class_is_a_direct_subclass(self):
        for name in ALL:
            with self.subTest(name):
                self.assertEqual(getattr(errors, name).__bases__, (errors.RouteError,))
                self.assertEqual(getattr(errors, name).__module__, 'keptroutes.errors')

    def test_instances_belong_to_no_other_class(self):
        for name in ALL:
            error = made(name)
            self.assertIsInstance(error, ValueError)
            self.assertIsInstance(error, errors.RouteError)
            for other in ALL:
                with self.subTest(name=name, other=other):
                    self.assertEqual(isinstance(error, getattr(errors, other)), name == other)

    def test_each_class_can_be_raised_and_caught(self):
        for name in ALL:
            with self.subTest(name):
                with self.assertRaises(getattr(errors, name)):
                    raise made(name)
                with self.assertRaises(errors.RouteError):
                    raise made(name)

    def test_plain_errors_carry_their_string(self):
        for name in PLAIN + ('RouteError',):
            with self.subTest(name):
                self.assertEqual(str(getattr(errors, name)('why')), 'why')

    def test_parse_error_has_a_line(self):
        self.assertEqual(errors.ParseError(3).line, 3)
        self.assertEqual(errors.ParseError(line=0).line, 0)
        self.assertIsInstance(str(errors.ParseError(3)), str)

    def test_no_solution_has_a_leaf(self):
        self.assertEqual(errors.NoSolution('01').leaf, '01')
        self.assertEqual(errors.NoSolution(leaf='').leaf, '')
        self.assertIsInstance(str(errors.NoSolution('')), str)

    def test_wrong_arguments_are_not_taken(self):
        for name in ('ParseError', 'NoSolution'):
            with self.subTest(name):
                with self.assertRaises(TypeError):
                    getattr(errors, name)()
                with self.assertRaises(TypeError):
                    getattr(errors, name)(1, 2)
