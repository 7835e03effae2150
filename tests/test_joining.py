"""Points [25] and [26]."""

import unittest

from tests.case import Case
from tests.model import (
    all_orders, all_sets, deed_by_rows, form_by_pairs, reached, sizes_by_gaps, some_orders, some_word,
)
from tests.wrong import NOT_ORDERS, TURNED_40
from turnlines.corners import marked_size, order_with, sizes
from turnlines.deeds import led
from turnlines.errors import InvalidOrder, Unlike
from turnlines.folds import is_folded
from turnlines.joining import joined, signs, unlike_sign
from turnlines.orders import exchanged
from turnlines.setcounts import sign_sum

BENT = [1, 3, 2, 7, 6, 5, 4, 8, 0]
RISING_40 = list(range(1, 40)) + [0]
SMALL = [order for size in range(2, 6) for order in all_orders(size)]
LARGER = some_orders([6, 7, 8, 9, 20, 39, 40], 4) + [BENT, TURNED_40, RISING_40]

# Two orders that differ in one of the signs first.
UNLIKE_ONES = [
    ([3, 2, 1, 0], [3, 1, 2, 0], 0), (order_with([1, 3], 1), order_with([1, 3], 3), 1),
    (order_with([1, 2, 2], 1), order_with([1, 2, 2], 2), 1), (BENT, order_with([3, 5], 3), 0),
    ([1, 3, 2, 5, 0, 4], [5, 4, 3, 2, 1, 0], 2), (BENT, [1, 7, 6, 5, 4, 3, 2, 8, 0], 3),
]


class SignsTest(Case):
    def test_written_out(self):
        for order, expected in [
            ([1, 0], ([1], 1, -2, True)), ([2, 1, 0], ([1, 1], 1, -4, True)), ([1, 2, 0], ([1, 1], 1, -4, True)),
            ([3, 2, 1, 0], ([3], 3, -4, True)), ([3, 1, 2, 0], ([1, 1, 1], 1, -8, True)),
            (BENT, ([1, 7], 1, 32, False)), ([1, 7, 6, 5, 4, 3, 2, 8, 0], ([1, 7], 1, 32, True)),
            (TURNED_40, ([39], 39, 2 ** 20, True)), (RISING_40, ([1] * 39, 1, -2 ** 39, True)),
        ]:
            self.assert_told(expected, signs, order)

    def test_four_parts(self):
        for order in SMALL + LARGER:
            expected = (sizes(order), marked_size(order), sign_sum(order), is_folded(order))
            self.assertEqual(repr(expected), repr(self.told(signs, order)))

    def test_counted(self):
        for order in SMALL:
            total = sum(1 - 2 * form_by_pairs(order, letters) for letters in all_sets(len(order)))
            self.assertEqual(sizes_by_gaps(order) + (total,), signs(order)[:3])

    def test_deeds_keep_all_four(self):
        for order in SMALL + all_orders(6) + LARGER:
            expected = signs(order)
            for deed in "ul":
                self.assertEqual(expected, signs(deed_by_rows(order, deed)))


class UnlikeSignTest(Case):
    def test_written_out(self):
        for one, other, expected in UNLIKE_ONES:
            self.assert_told(expected, unlike_sign, one, other)
            self.assert_told(expected, unlike_sign, other, one)
        for one, other in [([2, 1, 0], [1, 2, 0]), (BENT, BENT), (TURNED_40, TURNED_40), ([1, 0], [1, 0])]:
            self.assert_told(None, unlike_sign, one, other)

    def test_the_first_that_differs(self):
        orders = all_orders(5) + all_orders(6)[::4]
        told = [signs(order) for order in orders]
        for one, one_signs in zip(orders[::3], told[::3]):
            for other, other_signs in zip(orders[::2], told[::2]):
                if len(one) == len(other):
                    places = [at for at in range(4) if one_signs[at] != other_signs[at]]
                    self.assertEqual(places[0] if places else None, unlike_sign(one, other))

    def test_all_places_come_about(self):
        self.assertEqual({0, 1, 2, 3}, {unlike_sign(one, other) for one, other, _ in UNLIKE_ONES})


class JoinedTest(Case):
    def test_written_out(self):
        for one, other, expected in [
            ([2, 0, 1], [1, 2, 0], True), ([3, 2, 1, 0], [3, 1, 2, 0], False), ([1, 0], [1, 0], True),
            ([3, 2, 1, 0], [1, 3, 0, 2], True), ([1, 2, 3, 0], [3, 1, 2, 0], True),
        ] + [(one, other, False) for one, other, _ in UNLIKE_ONES]:
            self.assert_told(expected, joined, one, other)
            self.assert_told(expected, joined, other, one)

    def test_all_pairs_against_all_words(self):
        for size in range(2, 6):
            orders = all_orders(size)
            for one in orders:
                there = reached(one)
                for other in orders:
                    self.assertIs(tuple(other) in there, joined(one, other))

    def test_drawn_pairs_against_all_words(self):
        for size, starts, many in [(6, 12, 12), (7, 8, 12), (8, 6, 10), (9, 4, 10)]:
            orders = some_orders([size], starts + many)
            for one in orders[:starts]:
                there = reached(one)
                for other in orders[starts:] + [list(row) for row in sorted(there)[::len(there) // 3 + 1]]:
                    self.assertIs(tuple(other) in there, self.told(joined, one, other))

    def test_words_lead_to_joined_orders(self):
        for number, order in enumerate(SMALL + some_orders([6, 7, 8, 9], 10)):
            self.assertIs(True, joined(order, led(order, some_word(60, number))))
            self.assertIs(True, joined(led(order, some_word(60, number)), order))
            self.assertIs(True, joined(order, exchanged(order)))

    def test_larger_orders_are_not_refused(self):
        self.assertIs(True, joined(TURNED_40, led(TURNED_40, some_word(100, 1))))
        self.assertIs(False, joined(TURNED_40, RISING_40))


class RefusedTest(Case):
    def test_orders(self):
        for value in NOT_ORDERS:
            self.assert_refused(InvalidOrder, value, signs, value)
            for function in [unlike_sign, joined]:
                self.assert_refused(InvalidOrder, value, function, value, [2, 1, 0])
                self.assert_refused(InvalidOrder, value, function, [2, 1, 0], value)
                self.assert_refused(InvalidOrder, value, function, value, [0, 1])

    def test_unlike_sizes(self):
        for one, other in [([1, 0], [2, 1, 0]), ([2, 1, 0], [1, 0]), ([2, 1, 0], TURNED_40), (BENT, [3, 2, 1, 0])]:
            for function in [unlike_sign, joined]:
                self.assert_refused(Unlike, other, function, one, other)

    def test_both_are_looked_at_first(self):
        for function in [unlike_sign, joined]:
            for value in [[0, 1], [0, 1, 2], None, list(range(40, -1, -1))]:
                self.assert_refused(InvalidOrder, value, function, [2, 1, 0], value)
                self.assert_refused(InvalidOrder, value, function, value, [2, 1, 0])


if __name__ == "__main__":
    unittest.main()
