"""Points [35] and [36]."""

import unittest
from math import gcd

from tests.case import Case
from tests.model import large_lines, rounds_by_walking, sizes_by_gaps, small_lines
from tests.wrong import NOT_LENGTHS, NOT_ORDERS, TURNED_40, not_cells
from turnlines.errors import InvalidCell, InvalidLengths, InvalidOrder
from turnlines.exchanges import led_times
from turnlines.rounds import are_one_round, first_cell, first_cells, round_time, rounds, turns_to

TURNED, LENGTHS = [2, 1, 0], [2, 1, 3]
FAR = 10 ** 29
FACTOR = 10 ** 28 - 3

# For each function, what may stand behind an order and its lengths.
OF_LENGTHS = {
    round_time: [0], first_cell: [0], turns_to: [0, 0], rounds: [], are_one_round: [], first_cells: [],
}


def most_times(order):
    """Return the size of an order less its genus."""
    listed, _ = sizes_by_gaps(order)
    return len(order) - (len(order) + 1 - len(listed)) // 2


def times_of_rounds(walked):
    """Count the rounds of each time."""
    times = [len(ring) for ring in walked]
    return [(time, times.count(time)) for time in sorted(set(times))]


def first_cells_of_rounds(walked):
    """Put first cells of rounds of one time together if they lie side by side."""
    told = []
    for first, time in sorted((ring[0], len(ring)) for ring in walked):
        if told and told[-1][0] + told[-1][1] == first and told[-1][2] == time:
            told[-1] = (told[-1][0], told[-1][1] + 1, time)
        else:
            told.append((first, 1, time))
    return told


class RoundOfCellTest(Case):
    def test_written_out(self):
        for function, args, expected in [
            (round_time, [TURNED, LENGTHS, 0], 6), (first_cell, [TURNED, LENGTHS, 4], 0),
            (turns_to, [TURNED, LENGTHS, 0, 2], 4), (turns_to, [TURNED, LENGTHS, 0, 0], 0),
            (turns_to, [TURNED, LENGTHS, 2, 0], 2), (turns_to, [[1, 0], [4, 6], 0, 1], None),
            (turns_to, [[1, 0], [4, 6], 0, 2], 2), (turns_to, [[1, 0], [4, 6], 2, 0], 3),
            (round_time, [[1, 0], [4, 6], 3], 5), (first_cell, [[1, 0], [4, 6], 7], 1),
            (round_time, [TURNED, [1, 2, 1], 1], 1),
            (round_time, [TURNED, [1, 2, 1], 3], 2), (first_cell, [TURNED, [1, 2, 1], 3], 0),
            (first_cell, [TURNED, [1, 2, 1], 2], 2), (turns_to, [TURNED, [1, 2, 1], 1, 2], None),
            (turns_to, [TURNED, [1, 2, 1], 1, 1], 0), (round_time, [[1, 0], [1, 1], 0], 2),
            (round_time, [[1, 0], [FAR, 3 * FAR], 5], 4), (first_cell, [[1, 0], [FAR, 3 * FAR], 3 * FAR + 5], 5),
            (turns_to, [[1, 0], [FAR, 3 * FAR], 5, 2 * FAR + 5], 2), (round_time, [[1, 0], [1, FAR], 7], FAR + 1),
            (turns_to, [[1, 0], [FAR, 1], 9, 8], FAR), (turns_to, [[1, 0], [FAR, 1], 8, 9], 1),
        ]:
            self.assert_told(expected, function, *args)

    def test_all_cells_of_small_lines(self):
        for order, lengths in small_lines():
            for ring in rounds_by_walking(order, lengths):
                for cell in ring if len(order) <= 10 else ring[:5]:
                    self.assertEqual(repr(len(ring)), repr(self.told(round_time, order, lengths, cell)))
                    self.assertEqual(repr(ring[0]), repr(self.told(first_cell, order, lengths, cell)))

    def test_turns_between_all_cells(self):
        for order, lengths in small_lines()[:350:11]:
            rings = rounds_by_walking(order, lengths)
            places = {cell: (number, at) for number, ring in enumerate(rings) for at, cell in enumerate(ring)}
            for one, (ring, at) in places.items():
                for other, (there, behind) in places.items():
                    turns = (behind - at) % len(rings[ring]) if ring == there else None
                    self.assertEqual(repr(turns), repr(self.told(turns_to, order, lengths, one, other)))

    def test_turns_in_larger_orders(self):
        for order, lengths in small_lines()[-54::5]:
            rings = rounds_by_walking(order, lengths)
            for ring, further in zip(rings, rings[1:] + rings[:1]):
                for at, cell in enumerate(ring[:3]):
                    self.assertEqual(at, turns_to(order, lengths, ring[0], cell))
                    self.assertEqual(-at % len(ring), turns_to(order, lengths, cell, ring[0]))
                    if ring != further:
                        self.assertIs(None, turns_to(order, lengths, cell, further[-1]))

    def test_large_lines(self):
        for order, lengths in large_lines():
            for cell in [1, sum(lengths) // 3, sum(lengths) - 1]:
                time = self.told(round_time, order, lengths, cell)
                first = self.told(first_cell, order, lengths, cell)
                self.assertEqual(cell, led_times(order, lengths, cell, time))
                self.assertEqual(time, round_time(order, lengths, first))
                self.assertEqual(first, first_cell(order, lengths, first))
                self.assertLessEqual(first, cell)
                there = led_times(order, lengths, cell, 10 ** 29 + 1)
                self.assertEqual((10 ** 29 + 1) % time, self.told(turns_to, order, lengths, cell, there))
                self.assertEqual(cell, led_times(order, lengths, first, turns_to(order, lengths, first, cell)))

    def test_cells_are_told_as_first_cells_tell_them(self):
        for order, lengths in large_lines():
            for first, many, time in first_cells(order, lengths)[:4]:
                for cell in [first, first + many // 2, first + many - 1]:
                    self.assertEqual(cell, first_cell(order, lengths, cell))
                    self.assertEqual(time, round_time(order, lengths, cell))
                    self.assertEqual(cell, first_cell(order, lengths, led_times(order, lengths, cell, 12345)))


class RoundsTest(Case):
    def test_written_out(self):
        for order, lengths, times, firsts in [
            (TURNED, LENGTHS, [(6, 1)], [(0, 1, 6)]), ([1, 0], [4, 6], [(5, 2)], [(0, 2, 5)]),
            ([1, 0], [FAR, 3 * FAR], [(4, FAR)], [(0, FAR, 4)]),
            (TURNED, [1, 2, 1], [(1, 2), (2, 1)], [(0, 1, 2), (1, 2, 1)]),
            ([1, 2, 0], [2, 1, 1], [(2, 2)], [(0, 2, 2)]), ([1, 0], [1, 1], [(2, 1)], [(0, 1, 2)]),
            ([1, 0], [1, FAR], [(FAR + 1, 1)], [(0, 1, FAR + 1)]),
            (TURNED, [FAR, 7, FAR], [(1, 7), (2, FAR)], [(0, FAR, 2), (FAR, 7, 1)]),
            ([3, 1, 2, 0], [2, 3, 4, 2], [(1, 7), (2, 2)], [(0, 2, 2), (2, 7, 1)]),
            ([4, 1, 3, 2, 0], [1, 2, 1, 1, 1], [(1, 2), (2, 2)], [(0, 1, 2), (1, 2, 1), (3, 1, 2)]),
        ]:
            self.assert_told(times, rounds, order, lengths)
            self.assert_told(firsts, first_cells, order, lengths)
            self.assert_told(times[0][0] == sum(lengths), are_one_round, order, lengths)

    def test_small_lines(self):
        for order, lengths in small_lines():
            walked = rounds_by_walking(order, lengths)
            self.assertEqual(repr(times_of_rounds(walked)), repr(self.told(rounds, order, lengths)))
            self.assertEqual(repr(first_cells_of_rounds(walked)), repr(self.told(first_cells, order, lengths)))
            self.assertIs(len(walked) == 1, self.told(are_one_round, order, lengths))

    def test_both_answers_about_one_round(self):
        told = [are_one_round(order, lengths) for order, lengths in small_lines()]
        self.assertGreater(told.count(True), 50)
        self.assertGreater(told.count(False), 50)

    def test_one_time_but_several_rounds(self):
        self.assert_told(False, are_one_round, [1, 0], [2, 2])
        self.assert_told(False, are_one_round, [1, 0], [FAR, FAR])
        self.assert_told(True, are_one_round, [1, 0], [FAR, FAR + 1])

    def test_stretched_lines(self):
        for order, lengths in small_lines()[::3]:
            longer = [length * FACTOR for length in lengths]
            expected = [(time, many * FACTOR) for time, many in rounds(order, lengths)]
            self.assertEqual(expected, self.told(rounds, order, longer))
            firsts = [(first * FACTOR, many * FACTOR, time) for first, many, time in first_cells(order, lengths)]
            self.assertEqual(firsts, self.told(first_cells, order, longer))

    def test_two_letters(self):
        common = 123456789012345
        for one, other in [
            (FAR, FAR - 1), (10 ** 30 - 1, 10 ** 30 - 4), (common * 10 ** 14, common * (10 ** 14 + 7)),
            (6 * FAR, 4 * FAR), (10 ** 30 - 1, 1), (1, 10 ** 30 - 1), (2 ** 99, 6 ** 38), (3 ** 62, 6 ** 38),
        ]:
            many = gcd(one, other)
            self.assert_told([((one + other) // many, many)], rounds, [1, 0], [one, other])
            self.assert_told([(0, many, (one + other) // many)], first_cells, [1, 0], [one, other])
            self.assert_told(many == 1, are_one_round, [1, 0], [one, other])

    def test_sums_and_bounds(self):
        for order, lengths in small_lines() + large_lines():
            told, firsts = rounds(order, lengths), first_cells(order, lengths)
            self.assertEqual(sum(lengths), sum(time * many for time, many in told))
            self.assertEqual(sum(lengths), sum(time * many for first, many, time in firsts))
            self.assertEqual(sorted(set(time for time, many in told)), [time for time, many in told])
            self.assertEqual(sorted(firsts), firsts)
            self.assertEqual(0, firsts[0][0])
            for one, other in zip(firsts, firsts[1:]):
                self.assertTrue(one[0] + one[1] < other[0] or one[0] + one[1] == other[0] and one[2] != other[2])
            self.assertLessEqual(len(told), most_times(order))
            self.assertLessEqual(len(firsts), most_times(order))

    def test_letters_side_by_side_told_together(self):
        # The middle letters stay, and the outer two are exchanged.
        order = [39] + list(range(1, 39)) + [0]
        self.assert_told([(1, 38 * 7), (2, FAR)], rounds, order, [FAR] + [7] * 38 + [FAR])
        self.assert_told([(0, FAR, 2), (FAR, 38 * 7, 1)], first_cells, order, [FAR] + [7] * 38 + [FAR])

    def test_many_times(self):
        # Pairs of letters that are exchanged between letters that stay.
        order = [5, 2, 1, 3, 4, 0]
        self.assert_told([(1, 4), (2, 2)], rounds, order, [1, 1, 1, 2, 2, 1])
        self.assert_told([(0, 2, 2), (3, 4, 1)], first_cells, order, [1, 1, 1, 2, 2, 1])


class RefusedTest(Case):
    def test_orders(self):
        for value in NOT_ORDERS:
            for function, more in OF_LENGTHS.items():
                self.assert_refused(InvalidOrder, value, function, value, [1, 1, 1], *more)
                self.assert_refused(InvalidOrder, value, function, value, None, *[None] * len(more))

    def test_lengths(self):
        for value in NOT_LENGTHS:
            for function, more in OF_LENGTHS.items():
                self.assert_refused(InvalidLengths, value, function, TURNED, value, *more)
                self.assert_refused(InvalidLengths, value, function, TURNED, value, *[None] * len(more))

    def test_cells(self):
        for order, lengths in [(TURNED, LENGTHS), ([1, 0], [1, 1]), (TURNED_40, [FAR] * 40)]:
            for value in not_cells(sum(lengths)):
                for function in [round_time, first_cell]:
                    self.assert_refused(InvalidCell, value, function, order, lengths, value)
                self.assert_refused(InvalidCell, value, turns_to, order, lengths, value, 0)
                self.assert_refused(InvalidCell, value, turns_to, order, lengths, 0, value)
                self.assert_refused(InvalidCell, value, turns_to, order, lengths, value, None)


if __name__ == "__main__":
    unittest.main()
