"""Point [11]."""

import unittest

from tests.case import Case
from tests.model import (
    all_orders, falls_apart, named_anew, rings_by_gaps, sizes_by_gaps, some_orders, struck_by_rows,
)
from tests.wrong import NOT_LISTS, NOT_WHOLE, TURNED_40, deep_list
from turnlines.corners import marked_size, next_gap, order_with, sizes, struck, with_letter
from turnlines.errors import InvalidNumber, InvalidTable, TooMany, TurnError
from turnlines.orders import is_order

SMALL = [order for size in range(2, 6) for order in all_orders(size)]
LARGER = some_orders([6, 7, 8, 13], 2)

NOT_SIZES = NOT_LISTS + [
    [], [0], [-1], [0, 1], [-1, 2], [1, 0], [2, 1], [1, 3, 2], [3, 1, 1], [True], [True, 1], [1, True], [True, True],
    [False, 1], [1, 2, True], [40], [1, 39], [39, 1], [1] * 40, [20, 20], [10 ** 29], [1, 10 ** 29], [None], ["1"],
    [1, "2"], [[1]], [1, [1]], [(1,)], [1, None], [{}], [TurnError()], [1, TurnError()], deep_list(30),
]


def puts(order):
    """List the gaps and places at which a letter may be put."""
    size = len(order)
    places = [(gap, place) for gap in range(size + 1) for place in range(size + 1)]
    return [both for both in places if both not in [(0, 0), (size, size)]]


def put_by_rows(order, gap, place):
    """Put a letter into both rows as the document words it."""
    upper, lower = list(range(len(order))), list(order)
    upper.insert(gap, "new")
    lower.insert(place, "new")
    return named_anew(upper, lower)


def gaps_of(order, gap, place):
    """Tell the gaps for which a gap and a place stand."""
    behind = order[-1] + 1
    return behind if gap == len(order) else gap, behind if place == len(order) else order[place]


def lists_of_sum(most, least=1):
    """List all lists, in order, of numbers of at least the least one that sum to at most so much."""
    found = []
    for first in range(least, most + 1):
        found.append([first])
        found += [[first] + more for more in lists_of_sum(most - first, first)]
    return found


class WithLetterTest(Case):
    def test_written_out(self):
        for order, gap, place, expected, listed in [
            ([1, 0], 1, 1, [2, 1, 0], [1, 1]), ([2, 1, 0], 1, 2, [3, 2, 1, 0], [3]),
            ([2, 1, 0], 1, 1, [3, 1, 2, 0], [1, 1, 1]), ([1, 0], 0, 1, [2, 0, 1], [1, 1]),
            ([1, 0], 0, 2, [2, 1, 0], [1, 1]), ([1, 0], 1, 0, [1, 2, 0], [1, 1]),
            ([1, 0], 1, 2, [2, 0, 1], [1, 1]), ([1, 0], 2, 0, [2, 1, 0], [1, 1]), ([1, 0], 2, 1, [1, 2, 0], [1, 1]),
            (list(range(38, -1, -1)), 0, 39, TURNED_40, [39]),
        ]:
            self.assert_told(expected, with_letter, order, gap, place)
            self.assertEqual(listed, sizes(with_letter(order, gap, place)))

    def test_all_gaps_and_places(self):
        for order in SMALL + LARGER:
            for gap, place in puts(order):
                expected = put_by_rows(order, gap, place)
                self.assertEqual(expected, self.told(with_letter, order, gap, place))
                self.assertFalse(falls_apart(expected))

    def test_two_corners_become_one(self):
        for order in SMALL + LARGER:
            for gap, place in puts(order):
                one, other = self.rings_at(order, gap, place)
                if one != other:
                    expected = self.sizes_without(order, one, other)
                    expected.append(1 + sum(len([gap for gap in ring if gap]) for ring in [one, other]))
                    self.assertEqual(sorted(expected), sizes(with_letter(order, gap, place)))

    def test_one_corner_becomes_two(self):
        for order in SMALL + LARGER:
            for gap, place in puts(order):
                one, other = self.rings_at(order, gap, place)
                if one == other:
                    left = sizes(with_letter(order, gap, place))
                    for size in self.sizes_without(order, one):
                        left.remove(size)
                    self.assertEqual(2, len(left))
                    self.assertEqual(1 + len([gap for gap in one if gap]), sum(left))

    def test_how_one_corner_is_parted(self):
        for order in SMALL + LARGER:
            for gap, place in puts(order):
                one, other = self.rings_at(order, gap, place)
                if one == other and gap < len(order) and place < len(order):
                    steps, reached = 0, gap
                    while reached != order[place]:
                        steps, reached = steps + 1, next_gap(order, reached)
                    behind = with_letter(order, gap, place)
                    self.assertEqual(steps + 1, len(self.ring_with(behind, gap + 1)))
                    self.assertEqual(len(one) - steps, len(self.ring_with(behind, gap)))

    def rings_at(self, order, gap, place):
        one, other = gaps_of(order, gap, place)
        return self.ring_with(order, one), self.ring_with(order, other)

    def ring_with(self, order, gap):
        return [ring for ring in rings_by_gaps(order) if gap in ring][0]

    def sizes_without(self, order, *rings):
        others = [ring for ring in rings_by_gaps(order) if ring not in rings]
        return [len([gap for gap in ring if gap != 0]) for ring in others]

    def test_up_to_40_letters(self):
        for order in some_orders([38, 39], 2):
            for gap, place in puts(order)[::37]:
                one, other = self.rings_at(order, gap, place)
                behind = self.told(with_letter, order, gap, place)
                self.assertEqual(put_by_rows(order, gap, place), behind)
                self.assertEqual(len(rings_by_gaps(order)) + (1 if one == other else -1), len(rings_by_gaps(behind)))
                self.assertEqual(order, struck(behind, gap))

    def test_refused(self):
        for order in SMALL[:20] + LARGER + [TURNED_40]:
            size = len(order)
            for wrong in NOT_WHOLE + [-1, size + 1, size + 2, 10 ** 29, -10 ** 29]:
                self.assert_refused(InvalidNumber, wrong, with_letter, order, wrong, 1)
                self.assert_refused(InvalidNumber, wrong, with_letter, order, 1, wrong)
                self.assert_refused(InvalidNumber, wrong, with_letter, order, wrong, [])
                self.assert_refused(InvalidNumber, wrong, with_letter, order, 0, wrong)
                self.assert_refused(InvalidNumber, wrong, with_letter, order, size, wrong)

    def test_both_at_one_end_are_refused(self):
        for order in SMALL + LARGER + [TURNED_40]:
            for end in [0, len(order)]:
                self.assert_refused(InvalidNumber, end, with_letter, order, end, end)

    def test_41_letters_are_too_many(self):
        for order in some_orders([40], 3) + [TURNED_40]:
            for gap, place in [(0, 1), (1, 0), (0, 40), (40, 0), (20, 20), (39, 40), (40, 39)]:
                error = self.error_of(TooMany, with_letter, order, gap, place)
                self.assertEqual("41", repr(error.value))
        for order in some_orders([39], 3):
            self.assertEqual(40, len(with_letter(order, 39, 0)))


class StruckTest(Case):
    def test_written_out(self):
        for order, letter, expected in [
            ([3, 2, 1, 0], 1, [2, 1, 0]), ([2, 0, 1], 2, None), ([1, 0], 0, None), ([1, 0], 1, None),
            ([2, 1, 0], 0, [1, 0]), ([2, 1, 0], 1, [1, 0]), ([2, 1, 0], 2, [1, 0]), ([1, 2, 0], 0, None),
            ([1, 2, 0], 1, [1, 0]), ([1, 2, 0], 2, [1, 0]), ([1, 3, 0, 2], 1, [2, 0, 1]), ([1, 3, 0, 2], 0, None),
            ([1, 3, 0, 2], 3, None), (TURNED_40, 17, list(range(38, -1, -1))),
        ]:
            self.assert_told(expected, struck, order, letter)

    def test_as_the_rows_tell(self):
        for order in SMALL + all_orders(6) + LARGER + [TURNED_40]:
            for letter in range(len(order)):
                left = struck_by_rows(order, letter)
                expected = left if len(left) > 1 and not falls_apart(left) else None
                self.assertEqual(expected, self.told(struck, order, letter))

    def test_gives_the_order_back(self):
        for order in SMALL + LARGER:
            for gap, place in puts(order):
                self.assertEqual(order, struck(with_letter(order, gap, place), gap))

    def test_refused(self):
        for order in [[1, 0], [3, 2, 1, 0], TURNED_40]:
            for letter in NOT_WHOLE + [-1, len(order), len(order) + 1, 10 ** 29, -10 ** 29]:
                self.assert_refused(InvalidNumber, letter, struck, order, letter)


class OrderWithTest(Case):
    def assert_found(self, listed, marked):
        """Demand an order just where there is one, and that it has what was asked for."""
        found = self.told(order_with, listed, marked)
        if marked in listed and len([size for size in listed if size % 2 == 0]) % 2 == 0:
            self.assertIs(True, is_order(found), (listed, marked))
            self.assertEqual((listed, marked), sizes_by_gaps(found))
            self.assertEqual((listed, marked), (sizes(found), marked_size(found)))
            self.assertEqual(found, order_with(listed, marked))
        else:
            self.assertIsNone(found, (listed, marked))

    def test_written_out(self):
        self.assert_told([1, 0], order_with, [1], 1)
        for listed, marked in [
            ([1, 2], 1), ([3], 1), ([2], 2), ([1], 2), ([1, 1, 1], 3), ([2, 2, 2], 2), ([39], 38), ([39], 10 ** 29),
            ([1, 38], 1), ([1, 38], 38), ([2, 37], 37), ([1] * 39, 39), ([4, 4, 4], 4),
        ]:
            self.assert_told(None, order_with, listed, marked)

    def test_as_all_orders_tell(self):
        for size in range(2, 7):
            there = {(tuple(sizes(order)), marked_size(order)) for order in all_orders(size)}
            for listed in lists_of_sum(size - 1):
                if sum(listed) == size - 1:
                    for marked in range(1, size + 1):
                        self.assertEqual((tuple(listed), marked) in there, order_with(listed, marked) is not None)

    def test_all_lists_of_small_sums(self):
        for listed in lists_of_sum(11):
            for marked in range(1, 13):
                self.assert_found(listed, marked)

    def test_larger_sums(self):
        for listed in [
            [39], [1] * 39, [1, 2, 4, 8, 16], [1, 1, 1, 36], [19, 20], [1, 18, 20], [2] * 18 + [3], [1] + [2] * 19,
            [1, 1, 1] + [2] * 18, [3] * 13, [13, 13, 13], [1, 2, 3, 4, 5, 6, 7, 11], [2, 37], [17, 22], [38], [2, 36],
            [9, 10, 20], [4, 5, 6, 7, 8, 9], [6, 6, 6, 6, 6, 9], [5, 16, 18], [12, 27], [7, 8, 8, 8, 8], [2, 2, 35],
        ]:
            self.assertLessEqual(sum(listed), 39)
            for marked in sorted(set(listed)) + [40]:
                self.assert_found(listed, marked)

    def test_sizes_refused(self):
        for value in NOT_SIZES:
            for marked in [1, 2, 0, None, True]:
                self.assert_refused(InvalidTable, value, order_with, value, marked)

    def test_marked_refused(self):
        for listed in [[1], [3], [1, 2], [1] * 39]:
            for marked in NOT_WHOLE + [0, -1, -10 ** 29]:
                self.assert_refused(InvalidNumber, marked, order_with, listed, marked)

    def test_looked_at_anew(self):
        listed = [1, 2, 4]
        found = order_with(listed, 2)
        before = repr(found)
        listed[:] = [3]
        self.assertEqual(before, repr(found))
        self.assertEqual(([3], 3), sizes_by_gaps(order_with(listed, 3)))
        listed.append(1)
        self.assert_refused(InvalidTable, listed, order_with, listed, 3)


if __name__ == "__main__":
    unittest.main()
