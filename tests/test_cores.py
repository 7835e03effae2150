"""Points [12] and [13]."""

import unittest

from tests.case import Case
from tests.model import all_orders, lone_by_rows, reached, rings_by_gaps, sizes_by_gaps, some_orders, walk_by_words
from tests.wrong import TURNED_40
from turnlines.cores import core, core_walk, is_core, lone_gaps
from turnlines.corners import corners, marked_size, order_with, sizes, struck, with_letter
from turnlines.deeds import left_done
from turnlines.orders import is_order

BENT = [1, 3, 2, 7, 6, 5, 4, 8, 0]
RISING_40 = list(range(1, 40)) + [0]
SMALL = [order for size in range(2, 7) for order in all_orders(size)]
WITH_LONE_ONES = [order_with([1] * 10 + [29], 1)] + [order_with([1] * 25 + [2, 12], marked) for marked in [1, 2, 12]]
MANY_ORDERS = SMALL + some_orders(range(7, 41), 4) + WITH_LONE_ONES + [BENT, TURNED_40, RISING_40]


class LoneGapsTest(Case):
    def test_written_out(self):
        for order, expected in [
            ([1, 0], []), ([2, 1, 0], [1]), ([1, 2, 0], [2]), ([2, 0, 1], [1]), ([3, 2, 1, 0], []),
            ([3, 1, 2, 0], [1, 2]), ([1, 2, 3, 0], [2, 3]), (BENT, []), (TURNED_40, []),
            (RISING_40, list(range(2, 40))), ([4, 0, 2, 1, 3], []),
        ]:
            self.assert_told(expected, lone_gaps, order)

    def test_those_that_lead_to_themselves(self):
        for order in MANY_ORDERS:
            self.assertEqual(lone_by_rows(order), self.told(lone_gaps, order))
            self.assertEqual([ring[0] for ring in corners(order)[1:] if len(ring) == 1], lone_gaps(order))

    def test_without_the_letter(self):
        for order in MANY_ORDERS:
            for gap in lone_gaps(order):
                if len(order) > 2:
                    left = struck(order, gap)
                    self.assertIs(True, is_order(left))
                    expected = sizes(order)
                    expected.remove(1)
                    self.assertEqual((expected, marked_size(order)), (sizes(left), marked_size(left)))


class CoreWalkTest(Case):
    def test_written_out(self):
        for order, walk, left in [
            ([1, 0], [], [1, 0]), ([2, 1, 0], [("out", 1)], [1, 0]), ([1, 2, 0], [("out", 2)], [1, 0]),
            ([3, 2, 1, 0], [], [3, 2, 1, 0]), ([3, 1, 2, 0], [("out", 1), ("out", 1)], [1, 0]),
            (BENT, [("left", "u"), ("out", 1)], [2, 1, 6, 5, 4, 3, 7, 0]),
            ([4, 0, 2, 1, 3], [("left", "l"), ("out", 3)], [3, 1, 0, 2]),
            ([1, 4, 3, 0, 2], [("out", 3)], [1, 3, 0, 2]), (TURNED_40, [], TURNED_40),
            (RISING_40, [("out", 2)] * 38, [1, 0]),
        ]:
            self.assert_told(walk, core_walk, order)
            self.assert_told(left, core, order)

    def test_step_by_step(self):
        for order in MANY_ORDERS:
            steps, left = walk_by_words(order)
            self.assertEqual(repr(steps), repr(self.told(core_walk, order)))
            self.assertEqual(left, self.told(core, order))

    def test_what_the_steps_lead_to(self):
        for order in MANY_ORDERS:
            row = order
            for kind, what in core_walk(order):
                self.assertIn(kind, ["out", "left"])
                if kind == "left":
                    self.assertEqual((1, []), (marked_size(row), lone_gaps(row)))
                    row = left_done(row, what)
                    self.assertGreater(marked_size(row), 1)
                else:
                    self.assertEqual(min(lone_gaps(row)), what)
                    row = struck(row, what)
            self.assertEqual(row, core(order))

    def test_both_deeds_at_the_other_end_come_about(self):
        told = [step for order in SMALL for step in core_walk(order) if step[0] == "left"]
        self.assertEqual({("left", "u"), ("left", "l")}, set(told))


class CoreTest(Case):
    def test_sizes_above_1(self):
        for order in MANY_ORDERS:
            greater = [size for size in sizes_by_gaps(order)[0] if size > 1]
            left = core(order)
            self.assertIs(True, is_order(left))
            self.assertEqual(greater or [1], sizes_by_gaps(left)[0])
            if not greater:
                self.assertEqual([1, 0], left)

    def test_a_core_is_its_own_core(self):
        for order in MANY_ORDERS:
            left = core(order)
            self.assertIs(True, is_core(left))
            self.assertEqual([], core_walk(left))
            self.assertEqual(left, core(left))

    def test_lone_letters_leave_the_core(self):
        for order in SMALL:
            left = core(order)
            if left == order and len(order) > 2:
                for gap in range(1, len(order)):
                    self.assertEqual(left, core(with_letter(order, gap, order.index(gap))))

    def test_joined_orders_may_have_cores_of_unlike_marked_sizes(self):
        found = {marked_size(core(list(order))) for order in reached(order_with([1, 2, 4], 1))}
        self.assertEqual({2, 4}, found)


class IsCoreTest(Case):
    def test_written_out(self):
        for order, expected in [
            ([1, 0], True), ([2, 1, 0], False), ([1, 2, 0], False), ([3, 2, 1, 0], True), ([3, 1, 2, 0], False),
            ([4, 3, 2, 1, 0], True), (BENT, False), (TURNED_40, True), (RISING_40, False),
        ]:
            self.assert_told(expected, is_core, order)

    def test_no_size_1(self):
        for order in MANY_ORDERS:
            counted = [len([gap for gap in ring if gap != 0]) for ring in rings_by_gaps(order)]
            self.assert_told(1 not in counted or order == [1, 0], is_core, order)


if __name__ == "__main__":
    unittest.main()
