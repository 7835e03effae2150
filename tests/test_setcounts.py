"""Points [16], [17] and [18]."""

import unittest
from math import comb

from tests.case import Case
from tests.model import (
    all_orders, all_sets, cross, deed_by_rows, drawn_sets, form_by_pairs, meets_by_pairs, some_orders, some_word,
)
from tests.wrong import NOT_DEEDS, NOT_SETS, NOT_WHOLE, TURNED_40
from turnlines.corners import order_with, sizes
from turnlines.deeds import done, led
from turnlines.errors import InvalidDeed, InvalidNumber, InvalidSet
from turnlines.forms import form, is_set, meets, silent_sets
from turnlines.setcounts import how_many_sets, set_ahead, set_number, set_numbered, sign_sum

BENT = [1, 3, 2, 7, 6, 5, 4, 8, 0]
TURNED_39 = list(range(38, -1, -1))
RISING_40 = list(range(1, 40)) + [0]
SMALL = [order for size in range(2, 6) for order in all_orders(size)]
MEDIUM = some_orders([6, 7, 8], 12)
LARGER = some_orders([9, 20, 38, 39, 40], 3) + [order_with([1] * 39, 1), order_with([2] * 18 + [3], 2)]
LARGER += [order_with([1] * 10 + [29], 29), TURNED_39, TURNED_40, RISING_40]


def forms_of_all(order):
    """Tell the forms of all sets, each found from the set without its greatest letter."""
    size = len(order)
    below = [sum(1 << x for x in range(y) if cross(order, x, y)) for y in range(size)]
    found = [0]
    for y in range(size):
        found += [(bit + 1 + bin(mask & below[y]).count("1")) % 2 for mask, bit in enumerate(found)]
    return found


class CountsTest(Case):
    def test_written_out(self):
        for order, noughts, ones in [
            ([1, 0], 1, 3), ([2, 1, 0], 2, 6), ([1, 2, 0], 2, 6), ([3, 2, 1, 0], 6, 10), ([1, 3, 0, 2], 6, 10),
            ([3, 1, 2, 0], 4, 12), (TURNED_40, 2 ** 39 + 2 ** 19, 2 ** 39 - 2 ** 19), (BENT, 272, 240),
            (TURNED_39, 2 ** 38 + 2 ** 19, 2 ** 38 - 2 ** 19), (RISING_40, 2 ** 38, 3 * 2 ** 38),
            (order_with([2] * 18 + [3], 2), 2 ** 39, 2 ** 39), (order_with([1, 1, 2, 2], 1), 64, 64),
        ]:
            self.assert_told(noughts, how_many_sets, order, 0)
            self.assert_told(ones, how_many_sets, order, 1)
            self.assert_told(noughts - ones, sign_sum, order)

    def test_against_all_sets(self):
        orders = [order for size in range(2, 8) for order in all_orders(size)]
        for order in orders + some_orders([8], 60) + some_orders([11, 13], 3):
            forms = forms_of_all(order)
            ones = sum(forms)
            self.assertEqual(len(forms) - ones, how_many_sets(order, 0))
            self.assertEqual(ones, how_many_sets(order, 1))
            self.assertEqual(len(forms) - 2 * ones, sign_sum(order))

    def test_the_turned_row(self):
        # There all letters cross, so that the number of letters alone tells the form.
        for size in range(2, 41):
            expected = sum(comb(size, many) * (1 - many * (many + 1) // 2 % 2 * 2) for many in range(size + 1))
            self.assert_told(expected, sign_sum, list(range(size - 1, -1, -1)))

    def test_how_large_the_sum_is(self):
        for order in SMALL + all_orders(6) + MEDIUM + LARGER:
            total = self.told(sign_sum, order)
            silent = silent_sets(order)
            if any(size % 2 == 0 for size in sizes(order)):
                self.assertEqual(0, total)
                self.assertIn(1, [form(order, letters) for letters in silent])
            else:
                self.assertEqual(2 ** ((len(order) + len(silent)) // 2), abs(total))
                self.assertEqual(0, (len(order) + len(silent)) % 2)
                self.assertNotIn(1, [form(order, letters) for letters in silent])

    def test_all_sets_together(self):
        for order in LARGER:
            self.assertEqual(2 ** len(order), how_many_sets(order, 0) + how_many_sets(order, 1))
            self.assertEqual(sign_sum(order), how_many_sets(order, 0) - how_many_sets(order, 1))

    def test_refused(self):
        for bit in NOT_WHOLE + [-1, 2, 3, 10 ** 29, -10 ** 29]:
            for order in [[1, 0], [2, 1, 0], TURNED_40]:
                self.assert_refused(InvalidNumber, bit, how_many_sets, order, bit)
                self.assert_refused(InvalidNumber, bit, set_numbered, order, bit, 0)
                self.assert_refused(InvalidNumber, bit, set_numbered, order, bit, -1)


class NumbersTest(Case):
    def test_written_out(self):
        for order, bit, number, letters in [
            ([1, 0], 0, 0, []), ([1, 0], 1, 0, [0]), ([1, 0], 1, 1, [0, 1]), ([1, 0], 1, 2, [1]),
            ([2, 1, 0], 0, 1, [0, 1, 2]), ([2, 1, 0], 1, 5, [2]), ([1, 2, 0], 0, 1, [1, 2]), ([1, 2, 0], 1, 1, [0, 1]),
            (TURNED_40, 0, 0, []), (TURNED_40, 1, 0, [0]), (TURNED_40, 1, 2 ** 39 - 2 ** 19 - 1, [39]),
            (TURNED_40, 1, 1, [0, 1]), (TURNED_40, 0, 1, [0, 1, 2]), (TURNED_40, 0, 2, [0, 1, 2, 3]),
            (TURNED_40, 0, 2 ** 39 + 2 ** 19 - 1, [37, 38, 39]), (RISING_40, 0, 2 ** 38 - 1, [38, 39]),
            (RISING_40, 1, 3 * 2 ** 38 - 1, [39]), (RISING_40, 1, 3 * 2 ** 38 - 2, [38]),
        ]:
            self.assert_told(letters, set_numbered, order, bit, number)
            self.assert_told(number, set_number, order, letters)

    def test_against_all_sets(self):
        for order in SMALL + MEDIUM:
            counted = [0, 0]
            for letters in all_sets(len(order)):
                bit = form_by_pairs(order, letters)
                self.assertEqual(counted[bit], set_number(order, letters))
                self.assertEqual(letters, set_numbered(order, bit, counted[bit]))
                counted[bit] += 1

    def test_there_and_back_at_larger_sizes(self):
        for order in LARGER:
            for letters in drawn_sets(len(order), 2, 7) + [list(range(len(order))), [len(order) - 1]]:
                number = self.told(set_number, order, letters)
                self.assertEqual(letters, self.told(set_numbered, order, form(order, letters), number))
            for bit in range(2):
                many = how_many_sets(order, bit)
                for number in [0, 1, many // 3, many // 2, many - 2, many - 1]:
                    letters = self.told(set_numbered, order, bit, number)
                    self.assertIs(True, is_set(order, letters))
                    self.assertEqual(bit, form_by_pairs(order, letters))
                    self.assertEqual(number, set_number(order, letters))

    def test_greater_numbers_have_later_sets(self):
        for order in LARGER:
            for bit in range(2):
                many = how_many_sets(order, bit)
                numbers = sorted({many * at // 9 for at in range(9)} | {0, 1, 2, many - 2, many - 1})
                listed = [set_numbered(order, bit, number) for number in numbers]
                self.assertTrue(all(one < other for one, other in zip(listed, listed[1:])))

    def test_neighbours_at_40_letters(self):
        # Between the sets of two neighbouring numbers no set has the same form.
        for bit in range(2):
            for number in [0, 12345, 10 ** 11]:
                further = set_numbered(TURNED_40, bit, number)
                behind = set_numbered(TURNED_40, bit, number + 1)
                for _ in range(40):
                    further = set_behind(further, 40)
                    if form_by_pairs(TURNED_40, further) == bit:
                        break
                self.assertEqual(behind, further)

    def test_numbers_refused(self):
        for order in [[1, 0], [2, 1, 0], BENT, TURNED_40]:
            for bit in range(2):
                many = how_many_sets(order, bit)
                for number in NOT_WHOLE + [-1, many, many + 1, 10 ** 29, -10 ** 29]:
                    self.assert_refused(InvalidNumber, number, set_numbered, order, bit, number)

    def test_sets_refused(self):
        for value in NOT_SETS:
            self.assert_refused(InvalidSet, value, set_number, [2, 1, 0], value)
        for value in [[40], [0, 40], list(range(41)), [1, 0]]:
            self.assert_refused(InvalidSet, value, set_number, TURNED_40, value)


def set_behind(letters, size):
    """Tell the set that stands, in order, directly behind a set."""
    first = letters[-1] + 1 if letters else 0
    if first < size:
        return letters + [first]
    return letters[:-2] + [letters[-2] + 1]


def ahead_by_rows(order, deed, letters):
    """Let the moved letter stand for itself and the other one, by the names ahead of the deed."""
    upper = list(range(len(order)))
    if deed == "u":
        moved, other = order[-1], upper[-1]
    else:
        moved, other = upper.pop(), order[-1]
        upper.insert(upper.index(other) + 1, moved)
    found = sorted(upper[letter] for letter in letters)
    if moved not in found:
        return found
    return [letter for letter in range(len(order)) if (letter in found) != (letter == other)]


class SetAheadTest(Case):
    def test_written_out(self):
        for order, deed, letters, expected in [
            ([2, 1, 0], "u", [0], [0, 2]), ([2, 1, 0], "l", [1], [0, 2]), ([2, 1, 0], "l", [0, 2], [0, 1]),
            ([2, 1, 0], "u", [], []), ([2, 1, 0], "u", [0, 2], [0]), ([2, 1, 0], "u", [1, 2], [1, 2]),
            ([2, 1, 0], "l", [0, 1], [2]), ([2, 1, 0], "l", [0, 1, 2], [1, 2]), ([1, 3, 0, 2], "u", [2], [2, 3]),
            ([1, 3, 0, 2], "l", [3], [2, 3]), ([1, 3, 0, 2], "l", [2, 3], [3]), ([1, 3, 0, 2], "l", [0, 1], [0, 1]),
            (TURNED_40, "l", [1, 2], [0, 1, 39]), (TURNED_40, "u", [0, 39], [0]),
            (TURNED_40, "l", list(range(40)), list(range(1, 40))),
        ]:
            self.assert_told(expected, set_ahead, order, deed, letters)

    def test_as_the_rows_tell(self):
        for order in SMALL:
            for deed in "ul":
                for letters in all_sets(len(order)):
                    self.assertEqual(ahead_by_rows(order, deed, letters), set_ahead(order, deed, letters))
        for order in LARGER + MEDIUM:
            for deed in "ul":
                for letters in drawn_sets(len(order), 3, 8):
                    self.assertEqual(ahead_by_rows(order, deed, letters), self.told(set_ahead, order, deed, letters))

    def test_each_set_ahead_once(self):
        for order in SMALL + MEDIUM:
            sets = all_sets(len(order))
            for deed in "ul":
                self.assertEqual(sets, sorted(set_ahead(order, deed, letters) for letters in sets))

    def test_forms_and_meetings_stay(self):
        for order in SMALL:
            for deed in "ul":
                behind = deed_by_rows(order, deed)
                pairs = [(letters, set_ahead(order, deed, letters)) for letters in all_sets(len(order))]
                for letters, ahead in pairs:
                    self.assertEqual(form_by_pairs(behind, letters), form_by_pairs(order, ahead))
                for letters, ahead in pairs[::3]:
                    for other, other_ahead in pairs[::2]:
                        self.assertEqual(meets(behind, letters, other), meets(order, ahead, other_ahead))
        for order in LARGER + MEDIUM:
            for deed in "ul":
                behind = done(order, deed)
                one, other = drawn_sets(len(order), 2, 9)
                one_ahead, other_ahead = set_ahead(order, deed, one), set_ahead(order, deed, other)
                self.assertEqual(form(behind, one), form(order, one_ahead))
                self.assertEqual(meets_by_pairs(behind, one, other), meets_by_pairs(order, one_ahead, other_ahead))

    def test_deeds_leave_the_sign_sum(self):
        for number, order in enumerate(SMALL + all_orders(6) + MEDIUM + LARGER):
            expected = sign_sum(order)
            for word in ["u", "l", some_word(30, number)]:
                self.assertEqual(expected, sign_sum(led(order, word)))

    def test_refused(self):
        for value in NOT_DEEDS:
            for letters in [[0], [1, 0], None]:
                self.assert_refused(InvalidDeed, value, set_ahead, [2, 1, 0], value, letters)
        for value in NOT_SETS:
            for deed in "ul":
                self.assert_refused(InvalidSet, value, set_ahead, [2, 1, 0], deed, value)


if __name__ == "__main__":
    unittest.main()
