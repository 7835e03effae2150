"""Points [30], [31] and [32]."""

import unittest

from tests.case import Case
from tests.model import all_orders, exchanged_by_rows, reached, some_orders, some_word
from tests.wrong import NOT_ORDERS, NOT_WHOLE
from turnlines.classes import (
    class_number, class_numbered, class_orders, class_signs, class_size, classes, next_in_class,
)
from turnlines.deeds import led
from turnlines.errors import InvalidNumber, InvalidOrder, TooMany
from turnlines.joining import signs
from turnlines.orders import how_many_orders, turned_row

OF_ORDERS_ALONE = [class_size, class_orders, class_number, next_in_class]

# The first order of the class with 919 orders of 8 letters, and the one of the largest class.
FIRST_OF_919 = [1, 3, 0, 6, 5, 4, 7, 2]
FIRST_OF_5209 = [1, 3, 0, 5, 4, 7, 2, 6]

CLASSES_OF_8 = [
    ([1, 2, 3, 4, 5, 6, 7, 0], 28), ([1, 2, 3, 4, 5, 7, 0, 6], 490), ([1, 2, 3, 4, 6, 0, 7, 5], 840),
    ([1, 2, 3, 4, 6, 5, 7, 0], 616), ([1, 2, 3, 5, 0, 7, 4, 6], 868), ([1, 2, 3, 5, 4, 7, 0, 6], 3752),
    ([1, 2, 3, 6, 5, 4, 7, 0], 560), ([1, 2, 4, 0, 5, 7, 3, 6], 2088), ([1, 2, 4, 0, 6, 3, 7, 5], 504),
    ([1, 2, 4, 0, 6, 5, 7, 3], 4072), ([1, 2, 4, 3, 5, 7, 0, 6], 2352), ([1, 2, 4, 3, 6, 5, 7, 0], 1408),
    ([1, 2, 6, 5, 4, 3, 7, 0], 296), ([1, 3, 0, 4, 6, 2, 7, 5], 1258), ([1, 3, 0, 5, 2, 7, 4, 6], 127),
    ([1, 3, 0, 5, 4, 7, 2, 6], 5209), ([1, 3, 0, 5, 7, 2, 4, 6], 2327), ([1, 3, 0, 6, 5, 4, 7, 2], 919),
    ([1, 3, 2, 4, 6, 5, 7, 0], 371), ([1, 3, 2, 6, 5, 4, 7, 0], 938), ([1, 6, 5, 4, 3, 2, 7, 0], 70),
]


def class_by_deeds(order):
    """List all orders that deeds lead an order to, in order."""
    return [list(row) for row in sorted(reached(order))]


def all_classes(size):
    """List the classes of a size, each as deeds tell it."""
    left, found = [tuple(order) for order in all_orders(size)], []
    while left:
        rows = reached(left[0])
        found.append([list(row) for row in sorted(rows)])
        left = [row for row in left if row not in rows]
    return found


class ClassTest(Case):
    def test_written_out(self):
        self.assert_told([[1, 0]], class_orders, [1, 0])
        self.assert_told([[1, 2, 0], [2, 0, 1], [2, 1, 0]], class_orders, [2, 0, 1])
        self.assert_told(
            [[1, 2, 3, 0], [2, 3, 0, 1], [2, 3, 1, 0], [3, 0, 1, 2], [3, 1, 2, 0], [3, 2, 0, 1]],
            class_orders, [3, 1, 2, 0],
        )
        for order, expected in [
            ([1, 0], 1), ([2, 1, 0], 3), ([3, 2, 1, 0], 7), ([1, 2, 3, 0], 6), ([1, 2, 3, 4, 5, 0], 15),
            ([7, 6, 5, 4, 3, 2, 1, 0], 127), (FIRST_OF_919, 919), (FIRST_OF_5209, 5209),
            ([8, 7, 6, 5, 4, 3, 2, 1, 0], 255),
        ]:
            self.assert_told(expected, class_size, order)

    def test_all_orders_of_small_sizes(self):
        for size in range(2, 7):
            for there in all_classes(size):
                for order in there:
                    self.assertEqual(repr(len(there)), repr(self.told(class_size, order)))
                    self.assertEqual(repr(there), repr(self.told(class_orders, order)))

    def test_rows_exchanged(self):
        for order in [order for size in range(2, 6) for order in all_orders(size)] + some_orders([6, 7], 5):
            there = class_by_deeds(order)
            self.assertEqual(there, sorted(exchanged_by_rows(row) for row in there))
            self.assertEqual(len(there), class_size(exchanged_by_rows(order)))
            if len(there) <= 500:
                self.assertEqual(there, class_orders(exchanged_by_rows(order)))

    def test_more_than_500(self):
        for order, many in [(FIRST_OF_919, 919), (FIRST_OF_5209, 5209), ([1, 2, 4, 0, 6, 3, 7, 5], 504)]:
            for row in [order, led(order, some_word(50, many))]:
                self.assertEqual(many, self.error_of(TooMany, class_orders, row).value)
                self.assertIs(int, type(self.error_of(TooMany, class_orders, row).value))
                self.assert_told(many, class_size, row)

    def test_at_most_500(self):
        order = [1, 2, 3, 4, 5, 7, 0, 6]
        self.assertEqual(490, len(self.told(class_orders, order)))
        self.assertEqual(class_by_deeds(order), class_orders(order))

    def test_the_bound_is_500(self):
        # No class of the sizes up to 8 has 491 to 503 orders, so 500 itself is never met.
        sizes = [many for size in range(2, 9) for order, many in classes(size)]
        self.assertEqual(490, max(many for many in sizes if many <= 500))
        self.assertEqual(504, min(many for many in sizes if many > 500))


class PlacesTest(Case):
    def assert_places(self, there, places):
        for place in places:
            order = there[place]
            self.assertEqual(repr(place), repr(self.told(class_number, order)))
            self.assertEqual(repr(order), repr(self.told(class_numbered, there[-1 - place], place)))
            behind = there[place + 1] if place + 1 < len(there) else None
            self.assertEqual(repr(behind), repr(self.told(next_in_class, order)))

    def test_written_out(self):
        for function, args, expected in [
            (class_number, [[3, 2, 1, 0]], 6), (class_numbered, [[3, 2, 1, 0], 0], [1, 3, 0, 2]),
            (class_numbered, [[3, 2, 1, 0], 2], [2, 0, 3, 1]), (next_in_class, [[2, 0, 3, 1]], [2, 1, 3, 0]),
            (next_in_class, [[3, 2, 1, 0]], None), (class_number, [[1, 0]], 0), (class_numbered, [[1, 0], 0], [1, 0]),
            (next_in_class, [[1, 0]], None), (class_number, [[1, 2, 0]], 0), (next_in_class, [[1, 2, 0]], [2, 0, 1]),
            (class_numbered, [FIRST_OF_5209, 0], FIRST_OF_5209), (class_number, [FIRST_OF_919], 0),
        ]:
            self.assert_told(expected, function, *args)

    def test_all_orders_of_small_sizes(self):
        for size in range(2, 7):
            for there in all_classes(size):
                self.assert_places(there, range(len(there)))

    def test_large_classes(self):
        for order in [FIRST_OF_919, FIRST_OF_5209, [1, 2, 3, 4, 6, 0, 7, 5]] + some_orders([7, 8], 2):
            there = class_by_deeds(order)
            many = len(there)
            self.assert_places(there, [0, 1, many // 3, many // 2, many - 2, many - 1])

    def test_numbers_at_the_bounds(self):
        for order, many in [([1, 0], 1), ([2, 1, 0], 3), ([1, 2, 3, 0], 6), (FIRST_OF_919, 919)]:
            self.assertEqual(class_by_deeds(order)[-1], class_numbered(order, many - 1))
            for number in [-1, many, many + 1, 10 ** 29, -many]:
                self.assert_refused(InvalidNumber, number, class_numbered, order, number)


class ClassesTest(Case):
    def test_written_out(self):
        self.assert_told([([1, 0], 1)], classes, 2)
        self.assert_told([([1, 2, 0], 3)], classes, 3)
        self.assert_told([([1, 2, 3, 0], 6), ([1, 3, 0, 2], 7)], classes, 4)
        self.assertEqual([15, 105, 90, 66, 31, 134, 20], [many for order, many in classes(6)])
        self.assert_told(CLASSES_OF_8, classes, 8)

    def test_against_the_deeds(self):
        for size in range(2, 8):
            expected = [(there[0], len(there)) for there in all_classes(size)]
            self.assertEqual(repr(sorted(expected)), repr(self.told(classes, size)))

    def test_all_orders_stand_in_one(self):
        for size in range(2, 9):
            told = classes(size)
            self.assertEqual(how_many_orders(size), sum(many for order, many in told))
            self.assertEqual(sorted(told), told)
            rows = [row for order, many in told for row in reached(order)]
            self.assertEqual(how_many_orders(size), len(set(rows)))
            self.assertEqual(len(rows), len(set(rows)))

    def test_signs_written_out(self):
        self.assert_told([([1], 1, -2, True)], class_signs, 2)
        self.assert_told([([1, 1], 1, -4, True)], class_signs, 3)
        self.assert_told([([1, 1, 1], 1, -8, True), ([3], 3, -4, True)], class_signs, 4)
        self.assert_told(
            [([1, 1, 1, 1], 1, -16, True), ([1, 3], 1, -8, True), ([1, 3], 3, -8, True), ([2, 2], 2, 0, True)],
            class_signs, 5,
        )

    def test_signs_of_all_orders(self):
        for size in range(2, 7):
            found = []
            for order in all_orders(size):
                told = signs(order)
                if told not in found:
                    found.append(told)
            self.assertEqual(repr(sorted(found)), repr(self.told(class_signs, size)))

    def test_as_many_signs_as_classes(self):
        for size in range(2, 9):
            told = class_signs(size)
            self.assertEqual(len(classes(size)), len(told))
            self.assertTrue(all(one < other for one, other in zip(told, told[1:])))
            self.assertEqual(repr(sorted(signs(order) for order, many in classes(size))), repr(told))

    def test_false_stands_ahead_of_true(self):
        told = class_signs(8)
        folded = [bit for *others, bit in told if others == list(signs([7, 6, 5, 4, 3, 2, 1, 0]))[:3]]
        self.assertEqual([False, True], folded)


class RefusedTest(Case):
    def test_orders(self):
        for value in NOT_ORDERS:
            for function in OF_ORDERS_ALONE:
                self.assert_refused(InvalidOrder, value, function, value)
            for number in [0, -1, None, True]:
                self.assert_refused(InvalidOrder, value, class_numbered, value, number)

    def test_numbers(self):
        for value in NOT_WHOLE + [-1, 3, 4, 10 ** 29, -10 ** 29]:
            self.assert_refused(InvalidNumber, value, class_numbered, [2, 1, 0], value)

    def test_numbers_of_larger_orders(self):
        # To go through a class of 40 letters would take for ever.
        for value in NOT_WHOLE + [-1, -10 ** 29]:
            self.assert_refused(InvalidNumber, value, class_numbered, turned_row(40), value)

    def test_sizes(self):
        for value in NOT_WHOLE + [0, 1, -1, 9, 10, 40, 10 ** 29, -8]:
            for function in [classes, class_signs]:
                self.assert_refused(InvalidNumber, value, function, value)

    def test_the_class_of_a_turned_row(self):
        for size in range(2, 9):
            self.assert_told(2 ** (size - 1) - 1, class_size, turned_row(size))


if __name__ == "__main__":
    unittest.main()
