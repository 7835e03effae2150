"""What all tests ask of an answer and of a refusal."""

import unittest


class Case(unittest.TestCase):
    """A test case that also looks at the arguments behind each call."""

    def told(self, function, *args):
        """Call a function, look whether its arguments stayed, and return what it told."""
        before = repr(args)
        answer = function(*args)
        self.assertEqual(before, repr(args), function)
        return answer

    def assert_told(self, expected, function, *args):
        """Demand an answer that is equal and of the same kinds throughout, also at a second call."""
        for _ in range(2):
            self.assertEqual(repr(expected), repr(self.told(function, *args)), (function, args))

    def assert_refused(self, error, value, function, *args):
        """Demand just this error with the very value in its field, and unchanged arguments."""
        raised = self.error_of(error, function, *args)
        self.assertIs(raised.value, value, (function, args))

    def error_of(self, error, function, *args):
        """Demand just this error, and return it."""
        before = repr(args)
        with self.assertRaises(error, msg=(function, args)) as caught:
            function(*args)
        self.assertIs(type(caught.exception), error)
        self.assertEqual(before, repr(args), function)
        return caught.exception

    def assert_new_lists(self, function, *args):
        """Demand a list that is no argument, and that may be changed without an effect on later answers."""
        first = function(*args)
        expected = repr(first)
        self.assertIs(type(first), list)
        self.assertTrue(all(first is not arg for arg in args), function)
        for item in first:
            if isinstance(item, list):
                item.append("changed")
        first.append("changed")
        self.assertEqual(expected, repr(self.told(function, *args)), function)
