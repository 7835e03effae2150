"""Points [14] and [15]."""

import unittest

from tests.case import Case
from tests.model import (
    all_orders, all_sets, combined, cross, drawn_sets, form_by_pairs, in_just_one, meets_by_pairs, some_orders,
)
from tests.wrong import NOT_SETS, NOT_WHOLE, TURNED_40
from turnlines.corners import corners, order_with
from turnlines.errors import InvalidNumber, InvalidSet
from turnlines.forms import corner_set, crossings, form, is_set, is_silent, meets, silent_sets

BENT = [1, 3, 2, 7, 6, 5, 4, 8, 0]
TURNED_39 = list(range(38, -1, -1))
RISING_40 = list(range(1, 40)) + [0]
SMALL = [order for size in range(2, 7) for order in all_orders(size)]
LARGER = some_orders(range(7, 41), 2) + [order_with([1] * 39, 1), order_with([2] * 18 + [3], 2)]
LARGER += [BENT, TURNED_39, TURNED_40, RISING_40]


class IsSetTest(Case):
    def test_sets(self):
        for order in [[1, 0], [2, 1, 0], [1, 3, 0, 2]]:
            for letters in all_sets(len(order)):
                self.assert_told(True, is_set, order, letters)
        for letters in [[], [0], [39], [0, 39], list(range(40)), list(range(0, 40, 3))]:
            self.assert_told(True, is_set, TURNED_40, letters)

    def test_other_values(self):
        for value in NOT_SETS:
            self.assert_told(False, is_set, [2, 1, 0], value)
        for value in [[40], [0, 40], list(range(41)), list(range(39, -1, -1)), [0] * 40, [0, 1, 1], [1, 0, 2]]:
            self.assert_told(False, is_set, TURNED_40, value)

    def test_letters_of_the_order(self):
        for size in range(2, 41):
            order = list(range(size - 1, -1, -1))
            self.assertEqual([True, False], [is_set(order, [size - 1]), is_set(order, [size])])


class CrossingsTest(Case):
    def test_written_out(self):
        for order, expected in [
            ([1, 0], [(0, 1)]), ([2, 0, 1], [(0, 2), (1, 2)]), ([1, 2, 0], [(0, 1), (0, 2)]),
            ([2, 1, 0], [(0, 1), (0, 2), (1, 2)]), ([1, 3, 0, 2], [(0, 1), (0, 3), (2, 3)]),
            (RISING_40, [(0, letter) for letter in range(1, 40)]),
            (TURNED_40, [(x, y) for x in range(40) for y in range(x + 1, 40)]),
        ]:
            self.assert_told(expected, crossings, order)

    def test_pair_by_pair(self):
        for order in SMALL + LARGER:
            letters = range(len(order))
            expected = [(x, y) for x in letters for y in letters if x < y and cross(order, x, y)]
            self.assertEqual(repr(expected), repr(self.told(crossings, order)))


class FormTest(Case):
    def test_written_out(self):
        for order, letters, expected in [
            ([2, 1, 0], [], 0), ([2, 1, 0], [0], 1), ([2, 1, 0], [0, 1], 1), ([2, 1, 0], [0, 1, 2], 0),
            ([1, 3, 0, 2], [0, 2], 0), ([1, 3, 0, 2], [0, 1], 1), ([1, 3, 0, 2], [0, 1, 2, 3], 1),
            (TURNED_40, list(range(40)), 0), (TURNED_40, list(range(38)), 1), (RISING_40, list(range(40)), 1),
        ]:
            self.assert_told(expected, form, order, letters)

    def test_pair_by_pair(self):
        for order in SMALL:
            for letters in all_sets(len(order)):
                self.assertEqual(form_by_pairs(order, letters), form(order, letters))
        for order in LARGER:
            for letters in drawn_sets(len(order), 3, 1):
                self.assertEqual(form_by_pairs(order, letters), self.told(form, order, letters))


class MeetsTest(Case):
    def test_written_out(self):
        for order, one, other, expected in [
            ([2, 1, 0], [0], [0, 1], 1), ([2, 1, 0], [0], [1, 2], 0), ([2, 1, 0], [0, 1], [0, 1], 0),
            ([2, 1, 0], [], [0, 1, 2], 0), ([2, 1, 0], [0], [0], 0), ([2, 1, 0], [0, 1], [1, 2], 1),
            ([1, 3, 0, 2], [0], [2], 0), ([1, 3, 0, 2], [3], [0, 1, 2], 0), ([1, 3, 0, 2], [3], [0, 1], 1),
            (TURNED_40, [0], list(range(1, 40)), 1), (TURNED_40, list(range(20)), list(range(20, 40)), 0),
        ]:
            self.assert_told(expected, meets, order, one, other)
            self.assert_told(expected, meets, order, other, one)

    def test_pair_by_pair(self):
        for order in [order for order in SMALL if len(order) < 5]:
            for one in all_sets(len(order)):
                for other in all_sets(len(order)):
                    self.assertEqual(meets_by_pairs(order, one, other), meets(order, one, other))
        for order in SMALL + LARGER:
            for one, other in zip(drawn_sets(len(order), 3, 2), drawn_sets(len(order), 3, 3)):
                self.assertEqual(meets_by_pairs(order, one, other), self.told(meets, order, one, other))

    def test_the_form_of_letters_in_just_one(self):
        for order in SMALL + LARGER:
            for one, other in zip(drawn_sets(len(order), 4, 4), drawn_sets(len(order), 4, 5)):
                expected = (form(order, one) + form(order, other) + meets(order, one, other)) % 2
                self.assertEqual(expected, form(order, in_just_one(one, other)))


def silent_by_letters(order):
    """List the sets that meet all single letters 0 times, by 2."""
    letters = range(len(order))
    crossed = [sum(1 << y for y in letters if cross(order, x, y)) for x in letters]
    found = []
    for one in all_sets(len(order)):
        mask = sum(1 << x for x in one)
        if all(bin(mask & row).count("1") % 2 == 0 for row in crossed):
            found.append(one)
    return found


class SilentTest(Case):
    def test_is_silent_written_out(self):
        for order, letters, expected in [
            ([2, 1, 0], [0, 1, 2], True), ([2, 1, 0], [], True), ([2, 1, 0], [0, 1], False), ([1, 2, 0], [1, 2], True),
            ([1, 0], [0, 1], False), ([1, 0], [], True), (BENT, [1, 8], True), (BENT, [1, 7], False),
            (TURNED_40, list(range(40)), False), (TURNED_39, list(range(39)), True),
            (RISING_40, [1, 39], True), (RISING_40, list(range(1, 40)), False), (RISING_40, list(range(2, 40)), True),
        ]:
            self.assert_told(expected, is_silent, order, letters)

    def test_is_silent_against_single_letters(self):
        for order in SMALL:
            silent = silent_by_letters(order)
            for letters in all_sets(len(order)):
                self.assertIs(letters in silent, is_silent(order, letters))
        for order in LARGER:
            for letters in drawn_sets(len(order), 2, 6) + silent_sets(order)[:2]:
                expected = not any(meets_by_pairs(order, letters, [letter]) for letter in range(len(order)))
                self.assertIs(expected, self.told(is_silent, order, letters))

    def test_silent_sets_written_out(self):
        for order, expected in [
            ([1, 0], []), ([2, 1, 0], [[0, 1, 2]]), ([3, 2, 1, 0], []), ([1, 3, 0, 2], []), ([1, 2, 0], [[1, 2]]),
            ([2, 0, 1], [[0, 1]]), ([3, 1, 2, 0], [[0, 2, 3], [1, 2]]), (BENT, [[1, 8]]), (TURNED_40, []),
            (TURNED_39, [list(range(39))]), (RISING_40, [[letter, 39] for letter in range(1, 39)]),
        ]:
            self.assert_told(expected, silent_sets, order)

    def test_all_silent_sets_come_of_them(self):
        for order in SMALL:
            found = self.told(silent_sets, order)
            sums = [combined([found[at] for at in choice]) for choice in all_sets(len(found))]
            self.assertEqual(silent_by_letters(order), sorted(sums))

    def test_first_letters_and_order(self):
        for order in SMALL + LARGER:
            found = self.told(silent_sets, order)
            self.assertEqual(len(corners(order)) - 1, len(found))
            self.assertEqual(sorted(found), found)
            for letters in found:
                self.assertIs(True, is_set(order, letters))
                self.assertIs(True, is_silent(order, letters))
                self.assertFalse(any(letters[0] in other for other in found if other != letters))


class CornerSetTest(Case):
    def test_written_out(self):
        for order, number, expected in [
            ([2, 1, 0], 0, [0, 1, 2]), ([2, 1, 0], 1, [0, 1, 2]), ([3, 2, 1, 0], 0, []), (BENT, 1, [1, 8]),
            (BENT, 0, [1, 8]), ([1, 0], 0, []), ([1, 2, 0], 1, [1, 2]), ([3, 1, 2, 0], 2, [1, 2]),
            ([3, 1, 2, 0], 1, [0, 1, 3]), (RISING_40, 38, [38, 39]), (TURNED_39, 1, list(range(39))),
        ]:
            self.assert_told(expected, corner_set, order, number)

    def test_letters_with_just_one_end(self):
        for order in SMALL + LARGER:
            size = len(order)
            for number, ring in enumerate(corners(order)):
                ends = [[x, x + 1 if x + 1 < size else order[-1] + 1] for x in range(size)]
                expected = [x for x in range(size) if len([end for end in ends[x] if end in ring]) == 1]
                self.assertEqual(expected, self.told(corner_set, order, number))

    def test_silent_and_its_form(self):
        for order in SMALL + LARGER:
            for number, ring in enumerate(corners(order)):
                letters = corner_set(order, number)
                self.assertIs(True, is_silent(order, letters))
                odd = len([gap for gap in ring if gap != 0]) % 2 == 1
                self.assertEqual(0 if odd else 1, form(order, letters))

    def test_each_silent_set_comes_of_one_choice_of_corners(self):
        for order in SMALL:
            sets = [corner_set(order, number) for number in range(1, len(corners(order)))]
            sums = [combined([sets[at] for at in choice]) for choice in all_sets(len(sets))]
            self.assertEqual(silent_by_letters(order), sorted(sums))
            self.assertEqual(corner_set(order, 0), combined(sets))

    def test_refused(self):
        for order in [[1, 0], [2, 1, 0], BENT, TURNED_40, RISING_40]:
            many = len(corners(order))
            for number in NOT_WHOLE + [-1, many, many + 1, 10 ** 29, -10 ** 29]:
                self.assert_refused(InvalidNumber, number, corner_set, order, number)


class SetsRefusedTest(Case):
    def test_sets(self):
        for value in NOT_SETS:
            for order in [[2, 1, 0], [1, 2, 0]]:
                for function in [form, is_silent]:
                    self.assert_refused(InvalidSet, value, function, order, value)
                self.assert_refused(InvalidSet, value, meets, order, value, [0])
                self.assert_refused(InvalidSet, value, meets, order, [0], value)
                self.assert_refused(InvalidSet, value, meets, order, value, None)
        for value in [[40], [0, 40], list(range(41)), [1, 0]]:
            for function in [form, is_silent]:
                self.assert_refused(InvalidSet, value, function, TURNED_40, value)


if __name__ == "__main__":
    unittest.main()
