"""Points [2], [4], [7] and [8]."""

import unittest

from tests.case import Case
from tests.model import all_orders, deed_by_rows, mirrored_by_rows, some_orders, some_word
from tests.wrong import NOT_DEEDS, NOT_ORDERS, NOT_WORDS, TURNED_40
from turnlines.deeds import done, is_word, led, led_back, left_done, ring_size, undone
from turnlines.errors import InvalidDeed, InvalidOrder, InvalidWord
from turnlines.orders import is_order

WITH_DEED = [done, undone, left_done, ring_size]
WITH_WORD = [led, led_back]
MANY_ORDERS = [order for size in range(2, 6) for order in all_orders(size)] + some_orders(range(6, 41), 4)


class DoneTest(Case):
    def test_written_out(self):
        for order, deed, expected in [
            ([1, 0], "u", [1, 0]), ([1, 0], "l", [1, 0]), ([2, 1, 0], "u", [2, 0, 1]), ([2, 1, 0], "l", [1, 2, 0]),
            ([2, 0, 1], "u", [2, 1, 0]), ([2, 0, 1], "l", [2, 0, 1]), ([1, 2, 0], "u", [1, 2, 0]),
            ([1, 2, 0], "l", [2, 1, 0]), ([3, 2, 1, 0], "u", [3, 0, 2, 1]), ([3, 2, 1, 0], "l", [1, 3, 2, 0]),
            ([2, 4, 0, 3, 1], "u", [2, 4, 1, 0, 3]), ([2, 4, 0, 3, 1], "l", [3, 2, 0, 4, 1]),
            (TURNED_40, "u", [39, 0] + list(range(38, 0, -1))),
            (TURNED_40, "l", [1] + list(range(39, 1, -1)) + [0]),
        ]:
            self.assert_told(expected, done, order, deed)
            self.assert_told(order, undone, expected, deed)

    def test_as_the_rows_tell(self):
        for order in MANY_ORDERS:
            for deed in "ul":
                self.assert_told(deed_by_rows(order, deed), done, order, deed)

    def test_what_comes_is_an_order(self):
        for order in MANY_ORDERS:
            for deed in "ul":
                for function in [done, undone, left_done]:
                    self.assertIs(True, is_order(function(order, deed)))

    def test_each_takes_the_other_back(self):
        for order in all_orders(6) + MANY_ORDERS:
            for deed in "ul":
                self.assertEqual(order, undone(done(order, deed), deed))
                self.assertEqual(order, done(undone(order, deed), deed))


class LeftDoneTest(Case):
    def test_written_out(self):
        for order, deed, expected in [
            ([3, 2, 1, 0], "u", [2, 1, 3, 0]), ([3, 2, 1, 0], "l", [3, 1, 0, 2]), ([1, 0], "u", [1, 0]),
            ([2, 1, 0], "u", [1, 2, 0]), ([2, 1, 0], "l", [2, 0, 1]),
            ([1, 3, 2, 7, 6, 5, 4, 8, 0], "u", [3, 2, 7, 6, 5, 4, 8, 1, 0]),
        ]:
            self.assert_told(expected, left_done, order, deed)

    def test_mirrored_done_mirrored(self):
        for order in MANY_ORDERS:
            for deed in "ul":
                expected = mirrored_by_rows(deed_by_rows(mirrored_by_rows(order), deed))
                self.assert_told(expected, left_done, order, deed)


class RingSizeTest(Case):
    def test_written_out(self):
        for order, deed, expected in [
            ([3, 2, 1, 0], "u", 3), ([3, 0, 2, 1], "l", 2), ([1, 3, 2, 0], "u", 2), ([1, 0], "u", 1),
            ([1, 0], "l", 1), ([1, 2, 0], "u", 1), ([1, 2, 0], "l", 2), ([2, 0, 1], "l", 1), (TURNED_40, "u", 39),
            (TURNED_40, "l", 39), (list(range(1, 40)) + [0], "u", 1), (list(range(1, 40)) + [0], "l", 39),
        ]:
            self.assert_told(expected, ring_size, order, deed)

    def test_least_number_of_times(self):
        for order in all_orders(6) + MANY_ORDERS:
            for deed in "ul":
                times, behind = 1, deed_by_rows(order, deed)
                while behind != order:
                    times, behind = times + 1, deed_by_rows(behind, deed)
                self.assert_told(times, ring_size, order, deed)


class IsWordTest(Case):
    def test_words(self):
        for word in ["", "u", "l", "ul", "uul", "u" * 9999, "u" * 10000, "l" * 10000, "ul" * 5000]:
            self.assert_told(True, is_word, word)

    def test_other_values(self):
        for value in NOT_WORDS:
            self.assert_told(False, is_word, value)


class LedTest(Case):
    def test_written_out(self):
        for order, word, behind in [
            ([3, 2, 1, 0], "", [3, 2, 1, 0]), ([3, 2, 1, 0], "uuu", [3, 2, 1, 0]), ([3, 2, 1, 0], "ul", [2, 0, 3, 1]),
            ([3, 2, 1, 0], "lu", [1, 3, 0, 2]), ([2, 1, 3, 0], "l", [3, 2, 1, 0]), ([1, 0], "uullu", [1, 0]),
            ([2, 0, 1], "ul", [1, 2, 0]), (TURNED_40, "u" * 39, TURNED_40), (TURNED_40, "l" * 9984, TURNED_40),
            (TURNED_40, "u" * 9985, [39, 0] + list(range(38, 0, -1))),
        ]:
            self.assert_told(behind, led, order, word)
            self.assert_told(order, led_back, behind, word)

    def test_one_deed_behind_the_other(self):
        for number, order in enumerate(MANY_ORDERS):
            word = some_word(30, number)
            expected = order
            for deed in word:
                expected = deed_by_rows(expected, deed)
            self.assert_told(expected, led, order, word)
            self.assert_told(order, led_back, expected, word)

    def test_the_empty_word(self):
        for order in MANY_ORDERS:
            for function in WITH_WORD:
                self.assert_told(order, function, order, "")
                self.assertIsNot(order, function(order, ""))

    def test_words_of_most_signs(self):
        words = ["u" * 10000, "l" * 10000, "ul" * 5000, "u" * 5000 + "l" * 5000, some_word(10000, 1)]
        for order in some_orders([2, 3, 39, 40], 1) + [TURNED_40]:
            for word in words:
                self.assertEqual(order, led_back(led(order, word), word))
                self.assertEqual(order, led(led_back(order, word), word))

    def test_a_long_word_deed_by_deed(self):
        order, word = TURNED_40, some_word(10000, 2)
        expected = order
        for deed in word:
            expected = deed_by_rows(expected, deed)
        self.assertEqual(expected, led(order, word))


class RefusedTest(Case):
    def test_orders(self):
        for value in NOT_ORDERS:
            for function in WITH_DEED:
                self.assert_refused(InvalidOrder, value, function, value, "u")
                self.assert_refused(InvalidOrder, value, function, value, "l")
            for function in WITH_WORD:
                self.assert_refused(InvalidOrder, value, function, value, "")
                self.assert_refused(InvalidOrder, value, function, value, "ul")

    def test_deeds(self):
        for value in NOT_DEEDS:
            for function in WITH_DEED:
                self.assert_refused(InvalidDeed, value, function, [2, 1, 0], value)

    def test_words(self):
        for value in NOT_WORDS:
            for function in WITH_WORD:
                self.assert_refused(InvalidWord, value, function, [2, 1, 0], value)

    def test_the_first_wrong_one_is_told(self):
        for order in [[0, 1], (1, 0), None, TURNED_40 + [40], "u"]:
            for other in ["x", None, True, [], ["u"], "u" * 10001]:
                for function in WITH_DEED + WITH_WORD:
                    self.assert_refused(InvalidOrder, order, function, order, other)


class OwnListsTest(Case):
    def test_new_lists(self):
        # Among these are orders that a deed leaves as they are.
        for order in [[1, 0], [2, 0, 1], [1, 2, 0], [3, 2, 1, 0]]:
            for deed in "ul":
                for function in [done, undone, left_done]:
                    self.assert_new_lists(function, order, deed)
            for word in ["", "u", "ul"]:
                for function in WITH_WORD:
                    self.assert_new_lists(function, order, word)

    def test_arguments_changed_later(self):
        order = [3, 2, 1, 0]
        told = [function(order, "u") for function in [done, undone, left_done, led, led_back]]
        before = repr(told)
        order[:] = [1, 0]
        self.assertEqual(before, repr(told))

    def test_looked_at_anew(self):
        order = [2, 1, 0]
        self.assertEqual([[2, 0, 1], 2, [1, 2, 0]], [done(order, "u"), ring_size(order, "u"), led(order, "l")])
        order[:] = [3, 2, 1, 0]
        self.assertEqual([[3, 0, 2, 1], 3, [1, 3, 2, 0]], [done(order, "u"), ring_size(order, "u"), led(order, "l")])
        order[0] = 2
        for function in WITH_DEED + WITH_WORD:
            self.assert_refused(InvalidOrder, order, function, order, "u")


if __name__ == "__main__":
    unittest.main()
