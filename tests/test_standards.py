"""Points [22], [23] and [24]."""

import unittest
from itertools import permutations
from math import factorial

from tests.case import Case
from tests.model import all_orders, deed_by_rows, some_orders, some_word
from tests.wrong import NOT_LISTS, NOT_ORDERS, NOT_WHOLE, NOT_WORDS, TURNED_40, deep_list
from turnlines.corners import order_with
from turnlines.deeds import is_word, led
from turnlines.errors import InvalidNumber, InvalidOrder, InvalidRow, TurnError
from turnlines.folds import word_to
from turnlines.joining import joined
from turnlines.standards import (
    four_runs, how_many_standard, inside_of, is_standard, is_word_to_standard, standard_with, word_to_standard,
)

BENT = [1, 3, 2, 7, 6, 5, 4, 8, 0]
RISING_40 = list(range(1, 40)) + [0]
SMALL = [order for size in range(2, 7) for order in all_orders(size)]
LARGER = some_orders(range(7, 41), 4) + some_orders([40], 10)
LARGER += [BENT, TURNED_40, RISING_40, [39] + list(range(39)), order_with([1] * 39, 1), order_with([2] * 18 + [3], 2)]

NOT_INSIDES = NOT_LISTS + [
    [1], [-1], [True], [False], [0, 0], [1, 1], [1, 2], [0, 2], [True, False], [0, True], [False, 1], [0, 1, 1],
    [0, 1, 3], [None], ["0"], [0, "1"], [[]], [[0]], [(0,)], [{}], [TurnError()], [10 ** 29], deep_list(30),
    list(range(39)), list(range(38, -1, -1)), list(range(40)), [0] * 38, list(range(37)) + [36], list(range(1, 39)),
]

NOT_STANDARD = NOT_ORDERS + [
    [1, 2, 0], [2, 0, 1], [3, 0, 2, 1], [1, 3, 2, 0], [1, 3, 0, 2], [2, 3, 1, 0], [3, 2, 0, 1], BENT, RISING_40,
    [39] + list(range(39)),
]


def all_standard(size):
    """List all standard orders of a size, in order."""
    return [order for order in all_orders(size) if order[0] == size - 1 and order[-1] == 0]


def insides_of(size):
    """List all rows of letters of a size."""
    return [list(row) for row in permutations(range(size))]


class IsStandardTest(Case):
    def test_written_out(self):
        for order in [[1, 0], [2, 1, 0], [3, 1, 2, 0], [3, 2, 1, 0], TURNED_40, [39] + list(range(1, 39)) + [0]]:
            self.assert_told(True, is_standard, order)

    def test_other_values(self):
        for value in NOT_STANDARD + [[40] + list(range(1, 40)) + [0], [3, 1, 1, 0], [2, True, 0], (2, 1, 0), [0]]:
            self.assert_told(False, is_standard, value)

    def test_first_and_last_letters(self):
        for order in SMALL:
            self.assert_told(order[0] == len(order) - 1 and order[-1] == 0, is_standard, order)

    def test_words_to_them(self):
        for order in [order for size in range(2, 8) for order in all_standard(size)]:
            expected = "" if order == list(range(len(order) - 1, -1, -1)) else None
            self.assertEqual(expected, word_to(order))


class InsidesTest(Case):
    def test_how_many(self):
        for size, many in [(2, 1), (3, 1), (4, 2), (5, 6), (6, 24), (7, 120), (40, factorial(38))]:
            self.assert_told(many, how_many_standard, size)
        for size in range(2, 7):
            self.assertEqual(len(all_standard(size)), how_many_standard(size))
        for size in NOT_WHOLE + [1, 0, -1, 41, 42, 100, 10 ** 29, -10 ** 29]:
            self.assert_refused(InvalidNumber, size, how_many_standard, size)

    def test_written_out(self):
        for inside, order in [
            ([], [1, 0]), ([0], [2, 1, 0]), ([0, 1], [3, 1, 2, 0]), ([1, 0], [3, 2, 1, 0]),
            ([1, 0, 2], [4, 2, 1, 3, 0]), ([2, 0, 1], [4, 3, 1, 2, 0]),
            (list(range(38)), [39] + list(range(1, 39)) + [0]), (list(range(37, -1, -1)), TURNED_40),
        ]:
            self.assert_told(order, standard_with, inside)
            self.assert_told(inside, inside_of, order)

    def test_there_and_back(self):
        for size in range(2, 8):
            insides = insides_of(size - 2)
            orders = [self.told(standard_with, inside) for inside in insides]
            self.assertEqual(all_standard(size), sorted(orders))
            self.assertEqual(insides, [self.told(inside_of, order) for order in orders])

    def test_insides_refused(self):
        for value in NOT_INSIDES:
            self.assert_refused(InvalidRow, value, standard_with, value)

    def test_orders_refused(self):
        for value in NOT_STANDARD:
            self.assert_refused(InvalidOrder, value, inside_of, value)


class WordToStandardTest(Case):
    def test_written_out(self):
        for order in [[1, 0], [2, 1, 0], [3, 1, 2, 0], [4, 2, 1, 3, 0], TURNED_40, [39] + list(range(1, 39)) + [0]]:
            self.assert_told("", word_to_standard, order)
        self.assert_told("l", word_to_standard, [1, 2, 0])
        self.assert_told("u", word_to_standard, [2, 0, 1])
        self.assert_told("l" * 38, word_to_standard, RISING_40)

    def test_leads_to_a_standard_order(self):
        for order in SMALL + all_orders(7)[::5] + LARGER:
            word, size = self.told(word_to_standard, order), len(order)
            self.assertIs(True, is_word(word))
            self.assertLessEqual(len(word), (size - 1) * (size - 2))
            row = order
            for deed in word:
                row = deed_by_rows(row, deed)
            self.assertEqual((size - 1, 0), (row[0], row[-1]), order)
            self.assertEqual(word, word_to_standard(order))
            self.assertEqual(row == order, word == "")

    def test_judged(self):
        for order, value, expected in [
            ([1, 2, 3, 0], "ll", True), ([1, 2, 3, 0], "u", False), ([1, 2, 3, 0], "", False), ([2, 1, 0], "", True),
            ([1, 2, 3, 0], "lllll", True), ([1, 2, 3, 0], "llu", False), ([1, 2, 3, 0], "lluuu", True),
            ([1, 2, 3, 0], "lluu", False), ([1, 0], "ulu", True), ([2, 1, 0], "u" * 10000, True),
            ([2, 1, 0], "u" * 9999, False), ([2, 1, 0], "u" * 10001, False), ([2, 1, 0], "u" * 10002, False),
            (TURNED_40, "u" * 9984, True), (TURNED_40, "u" * 39 * 257, False), (TURNED_40, "l" * 10000, False),
        ]:
            self.assert_told(expected, is_word_to_standard, order, value)

    def test_judged_against_the_deeds(self):
        for number, order in enumerate(SMALL):
            for word in [some_word(length, number) for length in range(6)] + [word_to_standard(order)]:
                row = order
                for deed in word:
                    row = deed_by_rows(row, deed)
                self.assertIs(is_standard(row), self.told(is_word_to_standard, order, word))

    def test_words_of_10000_deeds(self):
        for order in some_orders([3, 20, 40], 2):
            begun = some_word(8000, 3)
            word = begun + word_to_standard(led(order, begun))
            self.assertIs(True, is_word_to_standard(order, word))
            row = led(order, word)
            while len(word) + len(order) - 1 <= 10000:
                word += "u" * (len(order) - 1)
            self.assertIs(True, is_word_to_standard(order, word), row)
            longer = word + "u" * (len(order) - 1)
            self.assertEqual((False, False), (is_word(longer), is_word_to_standard(order, longer)))

    def test_values_that_are_no_words(self):
        for value in NOT_WORDS:
            for order in [[2, 1, 0], [1, 2, 0], TURNED_40]:
                self.assert_told(False, is_word_to_standard, order, value)


def runs_by_deeds(order, ups, lows):
    """Do the deeds of four runs one by one; tell the word and what comes, None if 0 never comes last."""
    word, row = "u" * ups + "l" * lows, order
    for deed in word:
        row = deed_by_rows(row, deed)
    start = row
    while row[-1] != 0:
        row, word = deed_by_rows(row, "u"), word + "u"
        if row == start:
            return None
    while not (row[0] == len(row) - 1 and row[-1] == 0):
        row, word = deed_by_rows(row, "l"), word + "l"
    return word


class FourRunsTest(Case):
    def test_written_out(self):
        for order, ups, lows, expected in [
            ([4, 1, 3, 2, 0], 3, 1, "uuulull"), ([2, 1, 0], 0, 0, ""), ([4, 1, 3, 2, 0], 1, 0, "uuuu"),
            ([4, 1, 3, 2, 0], 1, 1, None), ([1, 0], 0, 0, ""), ([2, 1, 0], 1, 0, "uu"), ([2, 1, 0], 0, 1, "ll"),
            ([2, 1, 0], 1, 1, "ulu"), (TURNED_40, 38, 0, "u" * 39), (TURNED_40, 0, 38, "l" * 39),
            (TURNED_40, 1, 1, None),
        ]:
            self.assert_told(expected, four_runs, order, ups, lows)

    def test_against_the_deeds(self):
        for order in [order for size in range(2, 7) for order in all_standard(size)]:
            for ups in range(len(order) - 1):
                for lows in range(len(order) - 1):
                    expected = runs_by_deeds(order, ups, lows)
                    self.assertEqual(repr(expected), repr(self.told(four_runs, order, ups, lows)))
                    if expected is not None:
                        self.assertIs(True, is_standard(led(order, expected)))

    def test_larger_sizes(self):
        for order in LARGER:
            order = led(order, word_to_standard(order))
            most = len(order) - 2
            for ups, lows in [(0, 0), (most, 0), (0, most), (most, most), (most // 2, most // 3), (1, most)]:
                expected = runs_by_deeds(order, ups, lows)
                self.assertEqual(expected, self.told(four_runs, order, ups, lows))
                self.assertTrue(expected is None or is_standard(led(order, expected)))

    def test_joined_standard_orders(self):
        # Such words lead from each standard order to all those to which it is joined, and back again.
        for size in range(2, 7):
            orders = all_standard(size)
            for start in orders:
                there, latest = [start], [start]
                while latest:
                    told = [led(row, word) for row in latest for word in self.words_from(row)]
                    latest = [row for at, row in enumerate(told) if row not in there and row not in told[:at]]
                    there += latest
                self.assertEqual([order for order in orders if joined(start, order)], sorted(there))
                for word in self.words_from(start):
                    behind = led(start, word)
                    self.assertIn(start, [led(behind, back) for back in self.words_from(behind)])

    def words_from(self, order):
        told = [four_runs(order, ups, lows) for ups in range(len(order) - 1) for lows in range(len(order) - 1)]
        return [word for word in told if word is not None]

    def test_orders_refused(self):
        for value in NOT_STANDARD:
            self.assert_refused(InvalidOrder, value, four_runs, value, 0, 0)
            self.assert_refused(InvalidOrder, value, four_runs, value, -1, None)

    def test_numbers_refused(self):
        for order in [[1, 0], [2, 1, 0], [4, 1, 3, 2, 0], TURNED_40]:
            size = len(order)
            for wrong in NOT_WHOLE + [-1, size - 1, size, size + 1, 10 ** 29, -10 ** 29]:
                self.assert_refused(InvalidNumber, wrong, four_runs, order, wrong, 0)
                self.assert_refused(InvalidNumber, wrong, four_runs, order, 0, wrong)
                self.assert_refused(InvalidNumber, wrong, four_runs, order, size - 2, wrong)
                self.assert_refused(InvalidNumber, wrong, four_runs, order, wrong, [])


if __name__ == "__main__":
    unittest.main()
