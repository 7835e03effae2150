"""Point [5]."""

import unittest

from tests.case import Case
from turnlines import errors
from turnlines.errors import (
    InvalidCell, InvalidDeed, InvalidLengths, InvalidNumber, InvalidOrder, InvalidRow, InvalidRun, InvalidSet,
    InvalidTable, InvalidWord, TooMany, TurnError, Unlike,
)

TWELVE = [
    InvalidOrder, InvalidRow, InvalidNumber, InvalidDeed, InvalidWord, InvalidSet, InvalidTable, InvalidLengths,
    InvalidCell, InvalidRun, Unlike, TooMany,
]


class ErrorsTest(Case):
    def test_twelve_of_them(self):
        self.assertEqual(12, len(set(TWELVE)))
        names = [name for name, kind in vars(errors).items() if isinstance(kind, type) and kind is not TurnError]
        self.assertEqual(sorted(kind.__name__ for kind in TWELVE), sorted(names))

    def test_what_each_is_derived_from(self):
        self.assertEqual((ValueError,), TurnError.__bases__)
        for kind in TWELVE:
            self.assertEqual((TurnError,), kind.__bases__)

    def test_made_without_an_argument(self):
        for kind in TWELVE:
            self.assertIsNone(kind().value)

    def test_made_with_a_value(self):
        for value in [0, False, None, "", "ul", [1, 0], (1, 0), {1: 0}, 10 ** 30, TurnError()]:
            for kind in TWELVE:
                self.assertIs(kind(value).value, value)
                self.assertIs(kind(value=value).value, value)

    def test_made_with_one_argument_only(self):
        for kind in TWELVE:
            with self.assertRaises(TypeError):
                kind(1, 2)
            with self.assertRaises(TypeError):
                kind(worth=1)

    def test_fields_belong_to_each_object(self):
        one, other = InvalidOrder([1]), InvalidOrder([2])
        self.assertEqual([[1], [2]], [one.value, other.value])
        for kind in TWELVE:
            self.assertIn("value", vars(kind()))
            self.assertIn("__init__", vars(kind))

    def test_turn_error_has_no_field(self):
        self.assertEqual({}, vars(TurnError()))
        self.assertFalse(hasattr(TurnError(), "value"))

    def test_caught_by_what_it_is_derived_from(self):
        for kind in TWELVE:
            for base in [kind, TurnError, ValueError]:
                with self.assertRaises(base):
                    raise kind("told")


if __name__ == "__main__":
    unittest.main()
