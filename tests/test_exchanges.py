"""Points [33] and [34]."""

import unittest

from tests.case import Case
from tests.model import cells_by_rows, exchanged_by_rows, large_lines, small_lines
from tests.wrong import NOT_LENGTHS, NOT_ORDERS, NOT_WHOLE, TURNED_40, not_cells
from turnlines.errors import InvalidCell, InvalidLengths, InvalidNumber, InvalidOrder
from turnlines.exchanges import cell_ahead, led_cell, led_times, letter_of

TURNED, LENGTHS = [2, 1, 0], [2, 1, 3]
FAR = 10 ** 29

# For each function, what may stand behind an order and its lengths.
OF_LENGTHS = {led_cell: [0], cell_ahead: [0], letter_of: [0], led_times: [0, 0]}


def some_cells(lengths, many):
    """List some cells of a line, those at its ends and at the ends of its letters among them."""
    whole = sum(lengths)
    ends = [sum(lengths[:letter]) for letter in range(len(lengths))]
    cells = ends + [end - 1 for end in ends[1:]] + [whole - 1] + [whole * part // many for part in range(many)]
    return sorted(set(cells))


class CellsTest(Case):
    def test_written_out(self):
        for function, order, lengths, expected in [
            (led_cell, TURNED, LENGTHS, [4, 5, 3, 0, 1, 2]), (cell_ahead, TURNED, LENGTHS, [3, 4, 5, 2, 0, 1]),
            (letter_of, TURNED, LENGTHS, [0, 0, 1, 2, 2, 2]), (led_cell, [1, 0], [1, 1], [1, 0]),
            (led_cell, [1, 0], [1, 3], [3, 0, 1, 2]), (cell_ahead, [1, 0], [1, 3], [1, 2, 3, 0]),
            (letter_of, [1, 0], [1, 3], [0, 1, 1, 1]), (led_cell, [2, 0, 1], [2, 1, 2], [2, 3, 4, 0, 1]),
            (led_cell, [1, 2, 0], [2, 1, 2], [3, 4, 0, 1, 2]), (led_cell, [1, 3, 0, 2], [1, 1, 1, 1], [2, 0, 3, 1]),
        ]:
            for cell, answer in enumerate(expected):
                self.assert_told(answer, function, order, lengths, cell)

    def test_large_lengths_written_out(self):
        for function, lengths, cell, expected in [
            (led_cell, [FAR, 1, FAR], 0, FAR + 1), (led_cell, [FAR, 1, FAR], FAR, FAR),
            (led_cell, [FAR, 1, FAR], 2 * FAR, FAR - 1), (led_cell, [FAR, 1, FAR], FAR + 1, 0),
            (cell_ahead, [FAR, 1, FAR], 2 * FAR, FAR - 1), (cell_ahead, [FAR, 1, FAR], 0, FAR + 1),
            (letter_of, [FAR, 1, FAR], FAR - 1, 0), (letter_of, [FAR, 1, FAR], FAR, 1),
            (letter_of, [FAR, 1, FAR], FAR + 1, 2), (letter_of, [FAR, 1, FAR], 2 * FAR, 2),
        ]:
            self.assert_told(expected, function, TURNED, lengths, cell)

    def test_small_lines_cell_by_cell(self):
        for order, lengths in small_lines():
            led_to, letters = cells_by_rows(order, lengths)
            for cell in range(len(led_to)):
                self.assertEqual(repr(led_to[cell]), repr(self.told(led_cell, order, lengths, cell)))
                self.assertEqual(repr(cell), repr(self.told(cell_ahead, order, lengths, led_to[cell])))
                self.assertEqual(repr(letters[cell]), repr(self.told(letter_of, order, lengths, cell)))

    def test_large_lines_there_and_back(self):
        for order, lengths in large_lines():
            for cell in some_cells(lengths, 20):
                self.assertEqual(cell, cell_ahead(order, lengths, led_cell(order, lengths, cell)))
                self.assertEqual(cell, led_cell(order, lengths, cell_ahead(order, lengths, cell)))

    def test_large_lines_along_the_letters(self):
        for order, lengths in large_lines():
            for letter in range(len(order)):
                first = sum(lengths[:letter])
                below = sum(lengths[other] for other in order[:order.index(letter)])
                for number in {0, lengths[letter] // 2, lengths[letter] - 1}:
                    self.assertEqual(below + number, led_cell(order, lengths, first + number))
                    self.assertEqual(first + number, cell_ahead(order, lengths, below + number))
                    self.assertEqual(letter, letter_of(order, lengths, first + number))

    def test_exchanged_rows_undo(self):
        for order, lengths in large_lines():
            turned_about = [lengths[letter] for letter in order]
            for cell in some_cells(lengths, 5):
                self.assertEqual(
                    cell_ahead(order, lengths, cell), led_cell(exchanged_by_rows(order), turned_about, cell))


class LedTimesTest(Case):
    def test_written_out(self):
        for order, lengths, cell, count, expected in [
            (TURNED, LENGTHS, 0, 2, 1), (TURNED, LENGTHS, 0, -1, 3), (TURNED, LENGTHS, 5, 10 ** 29, 4),
            (TURNED, LENGTHS, 3, 0, 3), (TURNED, LENGTHS, 0, 6, 0), (TURNED, LENGTHS, 0, -6, 0),
            (TURNED, LENGTHS, 0, 6 * FAR + 1, 4), (TURNED, LENGTHS, 0, -6 * FAR - 1, 3), ([1, 0], [1, 1], 0, 1, 1),
            ([1, 0], [1, 1], 1, -FAR, 1), ([1, 0], [FAR, FAR], 5, 3, FAR + 5), ([1, 0], [FAR, 1], FAR, 5, 4),
            ([1, 0], [FAR, 1], 0, 7, 7), ([1, 0], [1, FAR], 0, -FAR, FAR), ([1, 0], [FAR, 3 * FAR], 9, 2, 2 * FAR + 9),
            ([1, 2, 0], [2, 1, 1], 0, 1, 2), ([1, 2, 0], [2, 1, 1], 3, -5, 1),
        ]:
            self.assert_told(expected, led_times, order, lengths, cell, count)

    def test_single_steps(self):
        for order, lengths in small_lines():
            led_to, _ = cells_by_rows(order, lengths)
            whole = len(led_to)
            for start in sorted({0, whole // 3, whole - 1}):
                cell = start
                for count in range(min(whole, 6)):
                    self.assertEqual(repr(cell), repr(self.told(led_times, order, lengths, start, count)))
                    self.assertEqual(start, led_times(order, lengths, cell, -count))
                    cell = led_to[cell]

    def test_all_steps_of_some_lines(self):
        for order, lengths in small_lines()[:350:19]:
            led_to, _ = cells_by_rows(order, lengths)
            for start in range(len(led_to)):
                cell = start
                for count in range(2 * len(led_to)):
                    self.assertEqual(cell, led_times(order, lengths, start, count))
                    cell = led_to[cell]

    def test_single_steps_of_large_lines(self):
        for order, lengths in large_lines():
            for start in [0, sum(lengths) // 2, sum(lengths) - 1]:
                there = back = start
                for count in range(1, 3):
                    there, back = led_cell(order, lengths, there), cell_ahead(order, lengths, back)
                    self.assertEqual(there, led_times(order, lengths, start, count))
                    self.assertEqual(back, led_times(order, lengths, start, -count))

    def test_large_counts_one_behind_the_other(self):
        for order, lengths in large_lines():
            for at, cell in enumerate([0, sum(lengths) // 3, sum(lengths) - 1]):
                one, other = 10 ** 29 * (at + 1) // 7, -(10 ** 30 - 1) // (at + 3)
                behind = self.told(led_times, order, lengths, cell, one)
                self.assertEqual(led_times(order, lengths, behind, other), led_times(order, lengths, cell, one + other))
                self.assertEqual(cell, led_times(order, lengths, behind, -one))
                self.assertEqual(cell, led_times(order, lengths, led_times(order, lengths, cell, other), -other))
                self.assertTrue(0 <= behind < sum(lengths))

    def test_two_letters_turn_the_line(self):
        # With two letters each cell goes on by the length of the upper row's last one.
        for one, other in [(FAR, 7), (7, FAR), (10 ** 30 - 1, 10 ** 30 - 3), (12, 18)]:
            whole = one + other
            for cell in [0, 3, one - 1, one, whole - 1]:
                for count in [1, -1, 10 ** 30 - 1, -10 ** 30 + 1, whole, whole - 1, 123456789]:
                    expected = (cell + count * other) % whole
                    self.assertEqual(expected, led_times([1, 0], [one, other], cell, count))

    def test_equal_lengths_stretched(self):
        # What is led cell by cell is led alike if each cell is stretched.
        for order, lengths in small_lines()[::9]:
            longer = [length * 10 ** 28 for length in lengths]
            for cell in range(0, sum(lengths), 3):
                for count in [2, 5, -7]:
                    expected = led_times(order, lengths, cell, count) * 10 ** 28 + 77
                    self.assertEqual(expected, led_times(order, longer, cell * 10 ** 28 + 77, count))


class RefusedTest(Case):
    def test_orders(self):
        for value in NOT_ORDERS:
            for function, more in OF_LENGTHS.items():
                self.assert_refused(InvalidOrder, value, function, value, [1, 1, 1], *more)
                self.assert_refused(InvalidOrder, value, function, value, None, *[None] * len(more))

    def test_lengths(self):
        for value in NOT_LENGTHS:
            for function, more in OF_LENGTHS.items():
                self.assert_refused(InvalidLengths, value, function, TURNED, value, *more)
                self.assert_refused(InvalidLengths, value, function, TURNED, value, *[None] * len(more))

    def test_lengths_of_other_sizes(self):
        for value in [[1] * 39, [1] * 41, [], [0] * 40, [1] * 39 + [0], (1,) * 40]:
            for function, more in OF_LENGTHS.items():
                self.assert_refused(InvalidLengths, value, function, TURNED_40, value, *more)

    def test_cells(self):
        for order, lengths in [(TURNED, LENGTHS), ([1, 0], [1, 1]), (TURNED_40, [FAR] * 40)]:
            for value in not_cells(sum(lengths)):
                for function, more in OF_LENGTHS.items():
                    self.assert_refused(InvalidCell, value, function, order, lengths, value, *more[1:])
                    self.assert_refused(InvalidCell, value, function, order, lengths, value, *[None] * len(more[1:]))

    def test_counts(self):
        for value in NOT_WHOLE:
            self.assert_refused(InvalidNumber, value, led_times, TURNED, LENGTHS, 0, value)


if __name__ == "__main__":
    unittest.main()
