"""Point [37]."""

import unittest
from itertools import product

from tests.case import Case
from tests.model import (
    cells_by_rows, large_lines, rank_of, rounds_by_walking, sign_of_crossing, sizes_by_gaps, small_lines,
)
from tests.wrong import NOT_LENGTHS, NOT_ORDERS, TURNED_40, not_cells
from turnlines.errors import InvalidCell, InvalidLengths, InvalidOrder
from turnlines.kinds import kinds, round_counts
from turnlines.rounds import round_time, rounds

TURNED, LENGTHS = [2, 1, 0], [2, 1, 3]
FAR = 10 ** 29
FACTOR = 10 ** 28 - 3


def counts_of(order, lengths):
    """List the rounds of a line, each with how many of its cells lie on each letter."""
    _, letters = cells_by_rows(order, lengths)
    told = []
    for ring in rounds_by_walking(order, lengths):
        on = [letters[cell] for cell in ring]
        told.append((ring, [on.count(letter) for letter in range(len(order))]))
    return told


def meets_signed(order, one, other):
    """Sum the products of two lists with the signed crossings."""
    letters = range(len(order))
    return sum(one[x] * sign_of_crossing(order, x, y) * other[y] for x, y in product(letters, letters))


class RoundCountsTest(Case):
    def test_written_out(self):
        for order, lengths, cell, expected in [
            (TURNED, LENGTHS, 0, [2, 1, 3]), (TURNED, LENGTHS, 5, [2, 1, 3]), (TURNED, [1, 2, 1], 0, [1, 0, 1]),
            (TURNED, [1, 2, 1], 1, [0, 1, 0]), (TURNED, [1, 2, 1], 3, [1, 0, 1]), ([1, 2, 0], [2, 1, 1], 0, [1, 1, 0]),
            ([1, 2, 0], [2, 1, 1], 3, [1, 0, 1]), ([1, 0], [FAR, 3 * FAR], 17, [1, 3]), ([1, 0], [4, 6], 9, [2, 3]),
            ([1, 0], [1, FAR], 5, [1, FAR]),
        ]:
            self.assert_told(expected, round_counts, order, lengths, cell)

    def test_small_lines(self):
        for order, lengths in small_lines():
            for ring, counts in counts_of(order, lengths):
                for cell in [ring[0], ring[-1]]:
                    self.assertEqual(repr(counts), repr(self.told(round_counts, order, lengths, cell)))

    def test_all_cells_of_some_lines(self):
        for order, lengths in small_lines()[:350:9]:
            for ring, counts in counts_of(order, lengths):
                for cell in ring:
                    self.assertEqual(counts, round_counts(order, lengths, cell))

    def test_large_lines(self):
        for order, lengths in large_lines():
            listed = [counts for counts, many in kinds(order, lengths)]
            for cell in [0, sum(lengths) // 2, sum(lengths) - 1]:
                counts = self.told(round_counts, order, lengths, cell)
                self.assertEqual(round_time(order, lengths, cell), sum(counts))
                self.assertIn(counts, listed)

    def test_a_new_list(self):
        self.assert_new_lists(round_counts, TURNED, LENGTHS, 0)


class KindsTest(Case):
    def test_written_out(self):
        for order, lengths, expected in [
            (TURNED, LENGTHS, [([2, 1, 3], 1)]), (TURNED, [1, 2, 1], [([0, 1, 0], 2), ([1, 0, 1], 1)]),
            ([1, 2, 0], [2, 1, 1], [([1, 0, 1], 1), ([1, 1, 0], 1)]), ([1, 0], [FAR, 3 * FAR], [([1, 3], FAR)]),
            ([1, 0], [4, 6], [([2, 3], 2)]),
            ([3, 1, 2, 0], [2, 3, 4, 2], [([0, 0, 1, 0], 4), ([0, 1, 0, 0], 3), ([1, 0, 0, 1], 2)]),
            ([1, 0], [10 ** 30 - 1, 1], [([10 ** 30 - 1, 1], 1)]),
        ]:
            self.assert_told(expected, kinds, order, lengths)

    def test_small_lines(self):
        for order, lengths in small_lines():
            listed = [counts for ring, counts in counts_of(order, lengths)]
            expected = [(counts, listed.count(counts)) for counts in map(list, sorted(set(map(tuple, listed))))]
            self.assertEqual(repr(expected), repr(self.told(kinds, order, lengths)))

    def test_two_kinds_of_one_time(self):
        self.assertEqual([(2, 2)], rounds([1, 2, 0], [2, 1, 1]))
        self.assertEqual(2, len(kinds([1, 2, 0], [2, 1, 1])))

    def assert_kinds(self, order, lengths):
        told = kinds(order, lengths)
        for letter, length in enumerate(lengths):
            self.assertEqual(length, sum(counts[letter] * many for counts, many in told))
        lists = [counts for counts, many in told]
        self.assertEqual(sorted(map(list, set(map(tuple, lists)))), lists)
        self.assertEqual(len(lists), rank_of(lists))
        for one, other in product(lists, lists):
            self.assertEqual(0, meets_signed(order, one, other))
        listed, _ = sizes_by_gaps(order)
        self.assertLessEqual(len(told), len(order) - (len(order) + 1 - len(listed)) // 2)
        times = {}
        for counts, many in told:
            times[sum(counts)] = times.get(sum(counts), 0) + many
        self.assertEqual(rounds(order, lengths), sorted(times.items()))

    def test_sums_and_independence(self):
        for order, lengths in small_lines()[::2] + large_lines():
            self.assert_kinds(order, lengths)

    def test_stretched_lines(self):
        for order, lengths in small_lines()[::3]:
            longer = [length * FACTOR for length in lengths]
            expected = [(counts, many * FACTOR) for counts, many in kinds(order, lengths)]
            self.assertEqual(expected, self.told(kinds, order, longer))

    def test_new_lists(self):
        told = kinds(TURNED, [1, 2, 1])
        told[0][0][:] = [7]
        told[:] = []
        self.assert_told([([0, 1, 0], 2), ([1, 0, 1], 1)], kinds, TURNED, [1, 2, 1])


class RefusedTest(Case):
    def test_orders(self):
        for value in NOT_ORDERS:
            self.assert_refused(InvalidOrder, value, kinds, value, [1, 1, 1])
            self.assert_refused(InvalidOrder, value, kinds, value, None)
            self.assert_refused(InvalidOrder, value, round_counts, value, [1, 1, 1], 0)
            self.assert_refused(InvalidOrder, value, round_counts, value, None, None)

    def test_lengths(self):
        for value in NOT_LENGTHS:
            self.assert_refused(InvalidLengths, value, kinds, TURNED, value)
            self.assert_refused(InvalidLengths, value, round_counts, TURNED, value, 0)
            self.assert_refused(InvalidLengths, value, round_counts, TURNED, value, None)

    def test_cells(self):
        for order, lengths in [(TURNED, LENGTHS), ([1, 0], [1, 1]), (TURNED_40, [FAR] * 40)]:
            for value in not_cells(sum(lengths)):
                self.assert_refused(InvalidCell, value, round_counts, order, lengths, value)


if __name__ == "__main__":
    unittest.main()
