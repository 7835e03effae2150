"""Points [19], [20] and [21]."""

import unittest

from tests.case import Case
from tests.model import (
    all_orders, deed_by_rows, exchanged_by_rows, mirrored_by_rows, reached, some_orders, some_word, walk_by_words,
)
from tests.wrong import NOT_WHOLE, TURNED_40
from turnlines.corners import order_with, with_letter
from turnlines.deeds import done, led, left_done, ring_size
from turnlines.errors import InvalidNumber
from turnlines.folds import how_many_turned, is_folded, turned_number, turned_numbered, word_to
from turnlines.orders import exchanged, mirrored, turned_row

BENT = [1, 3, 2, 7, 6, 5, 4, 8, 0]
RISING_40 = list(range(1, 40)) + [0]
SMALL = [order for size in range(2, 7) for order in all_orders(size)]


def short_words(most):
    """List all words of at most so many deeds, shorter ones first, those of one length in order."""
    words, latest = [""], [""]
    for _ in range(most):
        latest = [word + deed for word in latest for deed in "lu"]
        words += latest
    return words


def drawn_words():
    """List some words with sizes at which the turned row takes them to orders of their own."""
    told = [(size, some_word(length, size * length)) for size in range(3, 41) for length in {1, size // 2, size - 2}]
    return told + [(40, "u" * 38), (40, "l" * 38), (40, "ul" * 19), (40, "u" * 19 + "l" * 19), (40, ""), (39, "")]


class WordToTest(Case):
    def test_written_out(self):
        for order, expected in [
            ([1, 0], ""), ([2, 1, 0], ""), ([2, 0, 1], "u"), ([1, 2, 0], "l"), ([3, 2, 1, 0], ""),
            ([1, 3, 2, 0], "l"), ([3, 0, 2, 1], "u"), ([2, 1, 3, 0], "ll"), ([1, 3, 0, 2], "lu"),
            ([2, 0, 3, 1], "ul"), ([3, 1, 0, 2], "uu"), ([3, 1, 2, 0], None), ([1, 2, 3, 0], None),
            ([3, 0, 1, 2], None), ([2, 3, 0, 1], None), (BENT, None), (TURNED_40, ""), (RISING_40, None),
            ([39, 0] + list(range(38, 0, -1)), "u"), ([1] + list(range(39, 1, -1)) + [0], "l"),
        ]:
            self.assert_told(expected, word_to, order)

    def test_orders_that_words_lead_to(self):
        for size in range(2, 8):
            turned = list(range(size - 1, -1, -1))
            there = reached(turned)
            self.assertEqual(2 ** (size - 1) - 1, len(there))
            found = {}
            for word in short_words(size - 2):
                found[tuple(led(turned, word))] = word
            self.assertEqual(set(there), set(found))
            for order in all_orders(size):
                self.assertEqual(repr(found.get(tuple(order))), repr(self.told(word_to, order)))

    def test_drawn_words(self):
        for size, word in drawn_words():
            self.assert_told(word, word_to, led(turned_row(size), word))

    def test_longer_words(self):
        for size in [3, 10, 39, 40]:
            for seed in range(4):
                order = led(turned_row(size), some_word(500, seed))
                word = word_to(order)
                self.assertLessEqual(len(word), size - 2)
                self.assertEqual(order, led(turned_row(size), word))

    def test_the_word_behind_a_deed(self):
        for size, word in drawn_words() + [(size, word) for size in range(2, 7) for word in short_words(size - 2)]:
            order = led(turned_row(size), word)
            for deed in "ul":
                expected = word + deed if len(word) < size - 2 else word.rstrip(deed)
                self.assertEqual(expected, word_to(done(order, deed)))

    def test_rings(self):
        for size, word in drawn_words():
            order = led(turned_row(size), word)
            for deed in "ul":
                equal = len(word) - len(word.rstrip(deed))
                self.assertEqual(size - 1 - len(word) + equal, ring_size(order, deed))

    def test_exchanged_rows(self):
        for size, word in drawn_words() + [(size, word) for size in range(2, 7) for word in short_words(size - 2)]:
            turned_about = "".join({"u": "l", "l": "u"}[deed] for deed in word)
            self.assertEqual(turned_about, word_to(exchanged(led(turned_row(size), word))))

    def test_mirrored_rows(self):
        for size, word in drawn_words() + [(size, word) for size in range(2, 7) for word in short_words(size - 2)]:
            other = "l" if word.endswith("u") else "u"
            longer = (word + other * size)[:size - 1][::-1]
            self.assertEqual(longer.rstrip(longer[-1]), word_to(mirrored(led(turned_row(size), word))))


class NumbersTest(Case):
    def test_written_out(self):
        for size, many in [(2, 1), (3, 3), (4, 7), (5, 15), (10, 511), (39, 2 ** 38 - 1), (40, 549755813887)]:
            self.assert_told(many, how_many_turned, size)
        for size, number, order in [
            (2, 0, [1, 0]), (3, 0, [2, 1, 0]), (3, 1, [1, 2, 0]), (3, 2, [2, 0, 1]), (4, 3, [2, 1, 3, 0]),
            (4, 5, [2, 0, 3, 1]), (4, 6, [3, 1, 0, 2]), (40, 0, TURNED_40),
            (40, 1, [1] + list(range(39, 1, -1)) + [0]), (40, 2, [39, 0] + list(range(38, 0, -1))),
            (40, 2 ** 39 - 2, [39] + list(range(37, -1, -1)) + [38]),
            (40, 2 ** 38 - 1, list(range(38, 0, -1)) + [39, 0]),
        ]:
            self.assert_told(order, turned_numbered, size, number)
            self.assert_told(number, turned_number, order)

    def test_orders_without_a_number(self):
        for order in [[3, 1, 2, 0], [1, 2, 3, 0], BENT, RISING_40]:
            self.assert_told(None, turned_number, order)
        for size in range(2, 7):
            numbers = [self.told(turned_number, order) for order in all_orders(size)]
            there = sorted(number for number in numbers if number is not None)
            self.assertEqual(list(range(2 ** (size - 1) - 1)), there)

    def test_shorter_words_first(self):
        for size in range(2, 9):
            for number, word in enumerate(short_words(size - 2)):
                order = led(turned_row(size), word)
                self.assertEqual(order, self.told(turned_numbered, size, number))
                self.assertEqual(number, self.told(turned_number, order))

    def test_there_and_back_at_larger_sizes(self):
        for size in [9, 20, 38, 39, 40]:
            many = how_many_turned(size)
            for number in [0, 1, 2, 3, many // 5, many // 2, many // 2 + 1, many - 2, many - 1]:
                self.assertEqual(number, turned_number(turned_numbered(size, number)))

    def test_sizes_refused(self):
        for size in NOT_WHOLE + [1, 0, -1, 41, 42, 100, 10 ** 29, -10 ** 29]:
            self.assert_refused(InvalidNumber, size, how_many_turned, size)
            for number in [0, -1, True, None, 10 ** 29]:
                self.assert_refused(InvalidNumber, size, turned_numbered, size, number)

    def test_numbers_refused(self):
        for size in [2, 3, 4, 39, 40]:
            many = 2 ** (size - 1) - 1
            for number in NOT_WHOLE + [-1, many, many + 1, 10 ** 29, -10 ** 29]:
                self.assert_refused(InvalidNumber, number, turned_numbered, size, number)


class IsFoldedTest(Case):
    def test_written_out(self):
        for order, expected in [
            ([1, 0], True), ([2, 1, 0], True), ([5, 4, 3, 2, 1, 0], True), ([3, 1, 2, 0], True),
            ([1, 3, 2, 5, 0, 4], False), (TURNED_40, True), (RISING_40, True), (BENT, False),
            ([1, 7, 6, 5, 4, 3, 2, 8, 0], True), ([4, 1, 3, 2, 0], True), (order_with([39], 39), False),
            ([6, 2, 1, 3, 5, 4, 0], False),
        ]:
            self.assert_told(expected, is_folded, order)

    def test_against_the_words_from_the_core(self):
        for order in SMALL:
            left = walk_by_words(order)[1]
            turned = tuple(range(len(left) - 1, -1, -1))
            self.assertIs(turned in reached(left), self.told(is_folded, order))

    def test_kept(self):
        for order in SMALL + some_orders([7, 8, 9, 20, 40], 3) + [BENT, TURNED_40, RISING_40]:
            expected = is_folded(order)
            for deed in "ul":
                self.assertIs(expected, is_folded(deed_by_rows(order, deed)))
                self.assertIs(expected, is_folded(left_done(order, deed)))
            self.assertIs(expected, is_folded(exchanged_by_rows(order)))
            self.assertIs(expected, is_folded(mirrored_by_rows(order)))

    def test_letters_that_the_core_lacks(self):
        for size in [7, 20, 37]:
            for seed in range(5):
                order = led(turned_row(size), some_word(100, seed))
                for gap in [1, size // 2, size - 1]:
                    order = with_letter(order, gap, order.index(gap))
                self.assertIs(True, is_folded(order))


if __name__ == "__main__":
    unittest.main()
