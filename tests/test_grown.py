"""Points [45] and [46]."""

import unittest

from tests.case import Case
from tests.model import (
    all_orders, deed_by_rows, exchanged_by_rows, grown_by_pairs, left_by_rows, lone_by_rows, meets_by_pairs,
    mirrored_by_rows, reached, sizes_by_gaps, some_orders, some_word, struck_by_rows, walk_by_words,
)
from tests.wrong import NOT_ORDERS
from turnlines.corners import order_with, with_letter
from turnlines.deeds import led
from turnlines.errors import InvalidOrder
from turnlines.folds import is_folded, word_to
from turnlines.grown import grown_sets, how_many_grown
from turnlines.joining import joined
from turnlines.orders import turned_row

SMALL = [order for size in range(2, 6) for order in all_orders(size)]
LARGER = some_orders([6, 7, 8, 9, 10], 6)
BENT = [1, 3, 2, 7, 6, 5, 4, 8, 0]


def grown_by_letters(order):
    """Take single letters that meet a set once into it or out of it, again and again; list the sets in order."""
    found = {frozenset([letter]) for letter in range(len(order))}
    latest = list(found)
    while latest:
        held = latest.pop()
        for letter in range(len(order)):
            other = held ^ {letter}
            if meets_by_pairs(order, held, [letter]) and other not in found:
                found.add(other)
                latest.append(other)
    return sorted(sorted(letters) for letters in found)


class GrownSetsTest(Case):
    def test_written_out(self):
        for order, expected in [
            ([1, 0], [[0], [0, 1], [1]]), ([2, 1, 0], [[0], [0, 1], [0, 2], [1], [1, 2], [2]]),
            ([2, 0, 1], [[0], [0, 1, 2], [0, 2], [1], [1, 2], [2]]),
            ([3, 2, 1, 0], [[0], [0, 1], [0, 2], [0, 3], [1], [1, 2], [1, 3], [2], [2, 3], [3]]),
            ([1, 2, 0], [[0], [0, 1], [0, 1, 2], [0, 2], [1], [2]]),
        ]:
            self.assert_told(expected, grown_sets, order)
            self.assert_told(len(expected), how_many_grown, order)

    def test_pairs_of_sets_that_meet_once(self):
        for order in SMALL:
            expected = grown_by_pairs(order)
            self.assertEqual(repr(expected), repr(self.told(grown_sets, order)))
            self.assertEqual(repr(len(expected)), repr(self.told(how_many_grown, order)))

    def test_larger_orders(self):
        for order in LARGER[::5] + [BENT]:
            expected = grown_by_letters(order)
            self.assertEqual(expected, self.told(grown_sets, order))
            self.assertEqual(len(expected), self.told(how_many_grown, order))
        self.assertEqual(grown_by_pairs(LARGER[0]), grown_sets(LARGER[0]))

    def test_in_order_and_each_once(self):
        for order in SMALL + LARGER:
            told = grown_sets(order)
            self.assertTrue(all(one < other for one, other in zip(told, told[1:])))
            self.assertTrue(all(letters == sorted(set(letters)) and letters for letters in told))
            self.assertEqual(len(told), how_many_grown(order))

    def test_new_lists(self):
        self.assert_new_lists(grown_sets, [2, 1, 0])


class NumberTest(Case):
    def test_written_out(self):
        for order, expected in [
            ([3, 2, 1, 0], 10), ([3, 1, 2, 0], 12), ([4, 1, 3, 2, 0], 20), (BENT, 240),
            ([1, 7, 6, 5, 4, 3, 2, 8, 0], 72), ([1, 0], 3), ([2, 1, 0], 6),
            ([9, 8, 7, 6, 5, 4, 3, 2, 1, 0], 55), ([1, 2, 3, 4, 5, 6, 7, 8, 9, 0], 768),
        ]:
            self.assert_told(expected, how_many_grown, order)

    def test_deeds_and_rows_keep_it(self):
        for order in SMALL + LARGER:
            many = how_many_grown(order)
            for deed in "ul":
                self.assertEqual(many, how_many_grown(deed_by_rows(order, deed)))
                self.assertEqual(many, how_many_grown(left_by_rows(order, deed)))
            self.assertEqual(many, how_many_grown(exchanged_by_rows(order)))
            self.assertEqual(many, how_many_grown(mirrored_by_rows(order)))

    def test_the_least_number_is_that_of_the_turned_row(self):
        turned = [led(turned_row(size), some_word(40, size)) for size in range(6, 11)]
        for order in SMALL + all_orders(6) + LARGER + turned:
            size, many = len(order), how_many_grown(order)
            self.assertGreaterEqual(many, size * (size + 1) // 2)
            self.assertIs(word_to(order) is not None, many == size * (size + 1) // 2)

    def test_without_the_letter_of_a_lone_gap(self):
        wider = [with_letter(order, 1, order.index(1)) for order in some_orders([5, 7, 9], 4)]
        for order in SMALL + LARGER + wider:
            for gap in lone_by_rows(order) if len(order) > 2 else []:
                self.assertEqual(how_many_grown(order), 2 * how_many_grown(struck_by_rows(order, gap)))

    def test_folded_orders(self):
        wider = [with_letter(led(turned_row(size), some_word(30, size)), 2, 1) for size in range(3, 10)]
        for order in SMALL + all_orders(6) + LARGER + wider + [BENT]:
            left = len(walk_by_words(order)[1])
            expected = left * (left + 1) // 2 * 2 ** (len(order) - left)
            self.assertIs(is_folded(order), how_many_grown(order) == expected)


class JoinedTest(Case):
    def signs_of(self, order):
        return (*sizes_by_gaps(order), how_many_grown(order))

    def test_all_pairs(self):
        # Orders of one class have the same signs, those of two classes unlike ones: so all pairs are looked at.
        for size in range(2, 7):
            left, told = [tuple(order) for order in all_orders(size)], []
            while left:
                there = reached(left[0])
                signs = {repr(self.signs_of(list(row))) for row in there}
                self.assertEqual(1, len(signs))
                told.append(signs.pop())
                left = [row for row in left if row not in there]
            self.assertEqual(len(told), len(set(told)))

    def test_drawn_pairs(self):
        found = []
        for size, many in [(5, 30), (7, 30), (8, 30), (9, 30)]:
            orders = some_orders([size], many)
            for number, one in enumerate(orders):
                for other in orders[:number] + [led(one, some_word(70, number)), exchanged_by_rows(one)]:
                    found.append(joined(one, other))
                    self.assertIs(found[-1], self.signs_of(one) == self.signs_of(other))
        self.assertGreater(found.count(True), 200)
        self.assertGreater(found.count(False), 200)

    def test_folded_and_not(self):
        # These have the same sizes, and the same marked size.
        other = [1, 7, 6, 5, 4, 3, 2, 8, 0]
        self.assertEqual(sizes_by_gaps(BENT), sizes_by_gaps(other))
        self.assertNotEqual(how_many_grown(BENT), how_many_grown(other))
        self.assertIs(False, joined(BENT, other))
        self.assertEqual(sizes_by_gaps(order_with([5], 5)), sizes_by_gaps(turned_row(6)))


class RefusedTest(Case):
    def test_orders(self):
        for value in NOT_ORDERS:
            for function in [grown_sets, how_many_grown]:
                self.assert_refused(InvalidOrder, value, function, value)


if __name__ == "__main__":
    unittest.main()
