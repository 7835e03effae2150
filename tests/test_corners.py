"""Points [9] and [10]."""

import unittest

from tests.case import Case
from tests.model import (
    all_orders, corner_sets_of, deed_by_rows, gap_by_rows, named_anew, rings_by_gaps, sizes_by_gaps, some_orders,
)
from tests.wrong import NOT_WHOLE, TURNED_40
from turnlines.corners import corners, genus, marked_size, next_gap, sizes
from turnlines.deeds import done, left_done
from turnlines.errors import InvalidNumber
from turnlines.orders import exchanged, mirrored

BENT = [1, 3, 2, 7, 6, 5, 4, 8, 0]
TURNED_39 = list(range(38, -1, -1))
RISING_40 = list(range(1, 40)) + [0]
MANY_ORDERS = [order for size in range(2, 7) for order in all_orders(size)] + some_orders(range(7, 41), 4)
MANY_ORDERS += [BENT, TURNED_39, TURNED_40, RISING_40]


class NextGapTest(Case):
    def test_written_out(self):
        for order, expected in [
            ([1, 0], [1, 0]), ([2, 1, 0], [2, 1, 0]), ([3, 2, 1, 0], [2, 3, 1, 0]), ([1, 2, 0], [1, 0, 2]),
            ([2, 0, 1], [2, 1, 0]), ([1, 3, 0, 2], [3, 0, 1, 2]), (BENT, [1, 0, 4, 2, 6, 7, 8, 3, 5]),
            (RISING_40, [1, 0] + list(range(2, 40))),
            (TURNED_40, [2] + list(range(3, 40)) + [1, 0]),
        ]:
            self.assertEqual(expected, [self.told(next_gap, order, gap) for gap in range(len(order))], order)

    def test_as_the_rows_tell(self):
        for order in MANY_ORDERS:
            for gap in range(len(order)):
                self.assertEqual(gap_by_rows(order, gap), next_gap(order, gap))

    def test_each_gap_is_led_to_by_just_one(self):
        for order in MANY_ORDERS:
            gaps = list(range(len(order)))
            self.assertEqual(gaps, sorted(next_gap(order, gap) for gap in gaps))

    def test_refused(self):
        for order in [[1, 0], [3, 2, 1, 0], TURNED_40]:
            for gap in NOT_WHOLE + [-1, len(order), len(order) + 1, 10 ** 29, -10 ** 29]:
                self.assert_refused(InvalidNumber, gap, next_gap, order, gap)


class CornersTest(Case):
    def test_written_out(self):
        for order, expected in [
            ([1, 0], [[0, 1]]), ([2, 1, 0], [[0, 2], [1]]), ([3, 2, 1, 0], [[0, 2, 1, 3]]),
            ([1, 2, 0], [[0, 1], [2]]), ([2, 0, 1], [[0, 2], [1]]), ([3, 1, 2, 0], [[0, 3], [1], [2]]),
            (BENT, [[0, 1], [2, 4, 6, 8, 5, 7, 3]]), (RISING_40, [[0, 1]] + [[gap] for gap in range(2, 40)]),
            (TURNED_40, [list(range(0, 40, 2)) + list(range(1, 40, 2))]),
            (TURNED_39, [list(range(0, 39, 2)), list(range(1, 38, 2))]),
        ]:
            self.assert_told(expected, corners, order)

    def test_rings_of_next_gap(self):
        for order in MANY_ORDERS:
            self.assertEqual(rings_by_gaps(order), self.told(corners, order))
            for ring in corners(order):
                self.assertEqual(min(ring), ring[0])
                self.assertEqual(ring[1:] + ring[:1], [next_gap(order, gap) for gap in ring])
            self.assertEqual(sorted(corners(order)), corners(order))
            self.assertEqual(list(range(len(order))), sorted(sum(corners(order), [])))

    def test_the_first_corner_has_the_gap_0(self):
        for order in MANY_ORDERS:
            self.assertEqual(0, corners(order)[0][0])


class SizesTest(Case):
    def test_written_out(self):
        for order, listed, marked, number in [
            ([1, 0], [1], 1, 1), ([2, 1, 0], [1, 1], 1, 1), ([1, 2, 0], [1, 1], 1, 1), ([3, 2, 1, 0], [3], 3, 2),
            ([3, 1, 2, 0], [1, 1, 1], 1, 1), ([1, 3, 0, 2], [3], 3, 2), (BENT, [1, 7], 1, 4),
            ([1, 3, 2, 5, 0, 4], [5], 5, 3), (TURNED_39, [19, 19], 19, 19), (TURNED_40, [39], 39, 20),
            (RISING_40, [1] * 39, 1, 1),
        ]:
            self.assert_told(listed, sizes, order)
            self.assert_told(marked, marked_size, order)
            self.assert_told(number, genus, order)

    def test_gaps_other_than_0(self):
        for order in MANY_ORDERS:
            listed, marked = sizes_by_gaps(order)
            self.assertEqual(repr(listed), repr(self.told(sizes, order)))
            self.assertEqual(repr(marked), repr(self.told(marked_size, order)))

    def test_sums(self):
        for order in MANY_ORDERS:
            self.assertEqual(len(order) - 1, sum(sizes(order)))
            self.assertTrue(all(size >= 1 for size in sizes(order)))
            self.assertIn(marked_size(order), sizes(order))

    def test_genus_is_whole_and_at_least_1(self):
        for order in MANY_ORDERS:
            number = self.told(genus, order)
            self.assertIs(int, type(number))
            self.assertEqual(len(order) + 1 - len(corners(order)), 2 * number)
            self.assertGreaterEqual(number, 1)


class KeptTest(Case):
    def test_deeds_keep_sizes_and_the_marked_one(self):
        for order in MANY_ORDERS:
            for deed in "ul":
                behind = done(order, deed)
                self.assertEqual(sizes(order), sizes(behind))
                self.assertEqual(marked_size(order), marked_size(behind))
                self.assertEqual(genus(order), genus(behind))

    def test_deeds_keep_each_corner(self):
        for order in MANY_ORDERS:
            self.assertEqual(corner_sets_of(order), {frozenset(ring) for ring in corners(done(order, "u"))})
            upper = list(range(len(order)))
            upper.insert(upper.index(order[-1]) + 1, upper.pop())
            self.assertEqual(named_anew(upper, order), deed_by_rows(order, "l"))
            names = {letter: name for name, letter in enumerate(upper)}
            expected = {frozenset(names[gap] for gap in ring) for ring in corners(order)}
            self.assertEqual(expected, {frozenset(ring) for ring in corners(done(order, "l"))})

    def test_deeds_at_the_other_end_keep_sizes(self):
        for order in MANY_ORDERS:
            for deed in "ul":
                self.assertEqual(sizes(order), sizes(left_done(order, deed)))

    def test_exchanged_and_mirrored_keep_sizes(self):
        for order in MANY_ORDERS:
            self.assertEqual(sizes(order), sizes(exchanged(order)))
            self.assertEqual(sizes(order), sizes(mirrored(order)))
            self.assertEqual(marked_size(order), marked_size(exchanged(order)))


if __name__ == "__main__":
    unittest.main()
