"""Points [2], [4] and [6]."""

import unittest

from tests.case import Case
from tests.model import all_orders, exchanged_by_rows, falls_apart, mirrored_by_rows, some_orders
from tests.wrong import FALLING_ROWS, NOT_ORDERS, NOT_ROWS, NOT_WHOLE, TURNED_40, TURNED_41
from turnlines.errors import InvalidNumber, InvalidOrder, InvalidRow, TooMany
from turnlines.orders import exchanged, falls_at, how_many_orders, is_order, mirrored, orders_of, turned_row

NUMBERS_TO_7 = [1, 3, 13, 71, 461, 3447]
OF_4 = [
    [1, 2, 3, 0], [1, 3, 0, 2], [1, 3, 2, 0], [2, 0, 3, 1], [2, 1, 3, 0], [2, 3, 0, 1], [2, 3, 1, 0], [3, 0, 1, 2],
    [3, 0, 2, 1], [3, 1, 0, 2], [3, 1, 2, 0], [3, 2, 0, 1], [3, 2, 1, 0],
]
MANY_99 = int(
    "9143080048987592816584734806803060927910734134388212296323950125"
    "8793594883246136334276943473893456386880776855362529014834525623"
    "3199165165127608361622089879"
)
MANY_100 = int(
    "9144985940704455699600973887879664254455347090405462963302488865"
    "6403839329165192740617126745951171751275417681893844370589140272"
    "408745980029318238051619925109"
)


def falling_place(row):
    """Find the least k by looking at the first letters as a set."""
    places = [k for k in range(1, len(row)) if set(row[:k]) == set(range(k))]
    return places[0] if places else None


class IsOrderTest(Case):
    def test_sizes(self):
        self.assert_told(False, is_order, [0])
        self.assert_told(True, is_order, [1, 0])
        self.assert_told(False, is_order, [0, 1])
        self.assert_told(True, is_order, TURNED_40)
        self.assert_told(True, is_order, list(range(1, 40)) + [0])
        self.assert_told(False, is_order, TURNED_41)
        self.assert_told(False, is_order, list(range(1, 41)) + [0])
        self.assert_told(False, is_order, [])

    def test_small_orders(self):
        for order in [[2, 1, 0], [1, 2, 0], [2, 0, 1]] + OF_4:
            self.assert_told(True, is_order, order)

    def test_falling_rows(self):
        for row in FALLING_ROWS + [list(range(1, 39)) + [0, 39], [0] + list(range(39, 0, -1))]:
            self.assert_told(False, is_order, row)

    def test_other_values(self):
        for value in NOT_ORDERS:
            self.assert_told(False, is_order, value)

    def test_booleans_are_no_letters(self):
        self.assert_told(False, is_order, [True, False])
        self.assert_told(False, is_order, [2, True, 0])
        self.assert_told(False, is_order, [2, 1, False])

    def test_looked_at_anew(self):
        row = [2, 1, 0]
        self.assertIs(True, is_order(row))
        row[0], row[2] = 0, 2
        self.assertIs(False, is_order(row))
        row[:] = [1, 0]
        self.assertIs(True, is_order(row))


class FallsAtTest(Case):
    def test_written_out(self):
        for expected, row in [
            (2, [1, 0, 2]), (None, [1, 2, 0]), (1, [0, 1]), (None, [1, 0]), (1, [0, 2, 1]), (2, [1, 0, 3, 2]),
            (3, [2, 1, 0, 3]), (3, [1, 2, 0, 4, 3]), (None, [2, 0, 3, 1]), (1, list(range(40))), (None, TURNED_40),
            (39, list(range(38, -1, -1)) + [39]), (20, list(range(19, -1, -1)) + list(range(39, 19, -1))),
        ]:
            self.assert_told(expected, falls_at, row)

    def test_all_small_rows(self):
        for size in range(2, 7):
            orders = all_orders(size)
            for row in self.rows_of(size):
                self.assertEqual(falling_place(row), falls_at(row))
                self.assertEqual(row in orders, falls_at(row) is None)

    def rows_of(self, size):
        rows = [[]]
        for letter in range(size):
            rows = [row[:at] + [letter] + row[at:] for row in rows for at in range(letter + 1)]
        return rows

    def test_refused(self):
        for value in NOT_ROWS:
            self.assert_refused(InvalidRow, value, falls_at, value)


class HowManyOrdersTest(Case):
    def test_written_out(self):
        for size, many in zip(range(2, 8), NUMBERS_TO_7):
            self.assert_told(many, how_many_orders, size)
        self.assert_told(29093, how_many_orders, 8)
        self.assert_told(273343, how_many_orders, 9)
        self.assert_told(MANY_99, how_many_orders, 99)
        self.assert_told(MANY_100, how_many_orders, 100)

    def test_refused(self):
        for size in NOT_WHOLE + [1, 0, -1, -2, 101, 102, 10 ** 29, -10 ** 29]:
            self.assert_refused(InvalidNumber, size, how_many_orders, size)


class OrdersOfTest(Case):
    def test_written_out(self):
        self.assert_told([[1, 0]], orders_of, 2)
        self.assert_told([[1, 2, 0], [2, 0, 1], [2, 1, 0]], orders_of, 3)
        self.assert_told(OF_4, orders_of, 4)

    def test_number_order_and_once(self):
        for size, many in zip(range(2, 8), NUMBERS_TO_7):
            listed = orders_of(size)
            self.assertEqual(many, len(listed))
            self.assertTrue(all(one < other for one, other in zip(listed, listed[1:])))
            self.assertTrue(all(sorted(row) == list(range(size)) and not falls_apart(row) for row in listed))
            self.assertEqual(all_orders(size), listed)

    def test_no_list_twice(self):
        listed = orders_of(5)
        self.assertEqual(71, len({id(row) for row in listed}))

    def test_new_lists(self):
        self.assert_new_lists(orders_of, 4)

    def test_too_many(self):
        for size, many in [(8, 29093), (9, 273343), (99, MANY_99), (100, MANY_100)]:
            self.assertEqual(repr(many), repr(self.error_of(TooMany, orders_of, size).value))

    def test_refused(self):
        for size in NOT_WHOLE + [1, 0, -1, 101, 10 ** 29, -10 ** 29]:
            self.assert_refused(InvalidNumber, size, orders_of, size)


class TurnedRowTest(Case):
    def test_written_out(self):
        self.assert_told([1, 0], turned_row, 2)
        self.assert_told([2, 1, 0], turned_row, 3)
        self.assert_told([3, 2, 1, 0], turned_row, 4)
        self.assert_told(TURNED_40, turned_row, 40)

    def test_new_lists(self):
        self.assert_new_lists(turned_row, 5)

    def test_refused(self):
        for size in NOT_WHOLE + [1, 0, -1, 41, 100, 10 ** 29, -10 ** 29]:
            self.assert_refused(InvalidNumber, size, turned_row, size)


class TurnedAboutTest(Case):
    def test_exchanged_written_out(self):
        for order, expected in [
            ([1, 0], [1, 0]), ([2, 0, 1], [1, 2, 0]), ([1, 2, 0], [2, 0, 1]), ([2, 1, 0], [2, 1, 0]),
            ([1, 3, 2, 0], [3, 0, 2, 1]), ([1, 3, 0, 2], [2, 0, 3, 1]), (TURNED_40, TURNED_40),
            (list(range(1, 40)) + [0], [39] + list(range(39))),
        ]:
            self.assert_told(expected, exchanged, order)

    def test_mirrored_written_out(self):
        for order, expected in [
            ([1, 0], [1, 0]), ([1, 3, 2, 0], [3, 1, 0, 2]), ([2, 0, 1], [1, 2, 0]), ([2, 1, 0], [2, 1, 0]),
            ([1, 2, 3, 0], [3, 0, 1, 2]), ([1, 3, 0, 2], [1, 3, 0, 2]), (TURNED_40, TURNED_40),
            (list(range(1, 40)) + [0], [39] + list(range(39))),
        ]:
            self.assert_told(expected, mirrored, order)

    def test_as_the_rows_tell(self):
        for order in all_orders(5) + some_orders(range(6, 41), 3):
            self.assert_told(exchanged_by_rows(order), exchanged, order)
            self.assert_told(mirrored_by_rows(order), mirrored, order)

    def test_twice_is_the_order_again(self):
        for order in all_orders(6) + some_orders(range(7, 41), 3):
            for function in [exchanged, mirrored]:
                told = function(order)
                self.assertIs(True, is_order(told))
                self.assertEqual(order, function(told))

    def test_new_lists(self):
        # Orders that stay as they are must be told as new lists, too.
        for order in [[2, 1, 0], [1, 3, 0, 2], [3, 1, 2, 0], [1, 2, 0]]:
            self.assert_new_lists(exchanged, order)
            self.assert_new_lists(mirrored, order)

    def test_refused(self):
        for value in NOT_ORDERS:
            self.assert_refused(InvalidOrder, value, exchanged, value)
            self.assert_refused(InvalidOrder, value, mirrored, value)

    def test_looked_at_anew(self):
        order = [1, 2, 0]
        self.assertEqual([[2, 0, 1], [2, 0, 1]], [exchanged(order), mirrored(order)])
        order[:] = [2, 1, 0]
        self.assertEqual([[2, 1, 0], [2, 1, 0]], [exchanged(order), mirrored(order)])
        order[:] = [0, 1, 2]
        self.assert_refused(InvalidOrder, order, exchanged, order)
        self.assert_refused(InvalidOrder, order, mirrored, order)


if __name__ == "__main__":
    unittest.main()
