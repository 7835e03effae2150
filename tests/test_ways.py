"""Points [27], [28] and [29]."""

import unittest
from itertools import product

from tests.case import Case
from tests.model import all_orders, first_words, quick_led, reached, some_orders, some_word
from tests.wrong import NOT_ORDERS, NOT_WHOLE, NOT_WORDS, TURNED_40
from turnlines.deeds import led
from turnlines.errors import InvalidNumber, InvalidOrder, InvalidWord, Unlike
from turnlines.ways import comes_round, how_many_words, is_way, shortest_way, way_back, word_numbered

# For each function of two orders, what may stand behind them.
OF_TWO_ORDERS = {shortest_way: [], is_way: ["u"], how_many_words: [2], word_numbered: [2, 0]}
OF_AN_ORDER_AND_A_WORD = [way_back, comes_round]
SEVEN = [6, 5, 4, 3, 2, 1, 0]
BENT_SEVEN = [6, 1, 4, 2, 5, 3, 0]


def words_of(length):
    """List all words of a length, in order."""
    return ["".join(signs) for signs in product("lu", repeat=length)]


class ShortestWayTest(Case):
    def test_written_out(self):
        for one, other, expected in [
            ([1, 0], [1, 0], ""), ([2, 1, 0], [2, 1, 0], ""), ([2, 0, 1], [1, 2, 0], "ul"), ([2, 1, 0], [1, 2, 0], "l"),
            ([1, 2, 0], [2, 0, 1], "lu"), ([3, 2, 1, 0], [3, 1, 2, 0], None), ([3, 1, 2, 0], [3, 2, 1, 0], None),
            ([3, 2, 1, 0], [2, 1, 3, 0], "ll"), ([2, 1, 3, 0], [3, 2, 1, 0], "l"),
            ([1, 3, 0, 2], [3, 1, 0, 2], "ulluu"),
            ([7, 6, 5, 4, 3, 2, 1, 0], led([7, 6, 5, 4, 3, 2, 1, 0], "ulluul"), "ulluul"),
        ]:
            self.assert_told(expected, shortest_way, one, other)

    def test_first_of_the_shortest_words_for_all_pairs(self):
        for size in range(2, 6):
            orders = all_orders(size)
            for one in orders:
                words = first_words(one)
                for other in orders:
                    self.assertEqual(repr(words.get(tuple(other))), repr(self.told(shortest_way, one, other)))

    def test_two_shortest_words(self):
        # Of some shortest words, the first one in order is told, not only any one of them.
        several = 0
        for one in all_orders(5):
            for other in all_orders(5)[::5]:
                word = shortest_way(one, other)
                if word is not None:
                    ways = [way for way in words_of(len(word)) if quick_led(tuple(one), way) == tuple(other)]
                    self.assertEqual(ways[0], word)
                    several += len(ways) > 1
        self.assertGreater(several, 20)

    def test_drawn_pairs(self):
        for size, starts, many in [(6, 8, 10), (7, 6, 10), (8, 4, 12)]:
            orders = some_orders([size], starts + many)
            for one in orders[:starts]:
                words = reached(one)
                there = [list(row) for row in sorted(words)[::len(words) // 5 + 1]]
                for other in orders[starts:] + there:
                    self.assertEqual(repr(words.get(tuple(other))), repr(self.told(shortest_way, one, other)))
                for other in there:
                    self.assertEqual(other, led(one, shortest_way(one, other)))

    def test_from_an_order_to_itself(self):
        for order in some_orders([2, 3, 4, 5, 6, 7, 8], 3):
            self.assert_told("", shortest_way, order, order)
            self.assert_told("", shortest_way, order, list(order))


class IsWayTest(Case):
    def test_written_out(self):
        for one, other, value, expected in [
            ([2, 0, 1], [1, 2, 0], "ul", True), ([2, 0, 1], [1, 2, 0], "lul", True),
            ([2, 0, 1], [1, 2, 0], "lu", False),
            ([2, 1, 0], [2, 1, 0], "", True), ([2, 1, 0], [2, 1, 0], "uu", True), ([2, 1, 0], [2, 1, 0], "u", False),
            ([1, 0], [1, 0], "ullulu", True), ([2, 1, 0], [2, 0, 1], "", False), ([1, 0], [1, 0], "u" * 10000, True),
            ([2, 1, 0], [2, 1, 0], "u" * 10000, True), ([2, 1, 0], [2, 0, 1], "u" * 9999, True),
        ]:
            self.assert_told(expected, is_way, one, other, value)

    def test_against_all_words(self):
        for size in range(2, 5):
            for one in all_orders(size):
                for other in all_orders(size):
                    for word in words_of(0) + words_of(3) + words_of(4):
                        there = quick_led(tuple(one), word) == tuple(other)
                        self.assertIs(there, is_way(one, other, word))

    def test_words_bent_at_one_place(self):
        told = []
        for number, one in enumerate(some_orders([4, 5, 6, 7, 8], 3)):
            word = some_word(30, number)
            other = led(one, word)
            self.assertIs(True, self.told(is_way, one, other, word))
            for at in range(len(word)):
                bent = word[:at] + {"u": "l", "l": "u"}[word[at]] + word[at + 1:]
                shorter = word[:at] + word[at + 1:]
                for way in [bent, shorter]:
                    told.append(is_way(one, other, way))
                    self.assertIs(quick_led(tuple(one), way) == tuple(other), told[-1])
        self.assertGreater(told.count(False), 9 * told.count(True))

    def test_values_that_are_no_words(self):
        for value in NOT_WORDS:
            self.assert_told(False, is_way, [1, 0], [1, 0], value)
            self.assert_told(False, is_way, [2, 0, 1], [1, 2, 0], value)


class WayBackTest(Case):
    def assert_leads_back(self, order, word):
        back = self.told(way_back, order, word)
        self.assertIs(type(back), str)
        self.assertEqual(tuple(order), quick_led(quick_led(tuple(order), word), back))
        self.assertLessEqual(len(back), (len(order) - 2) * len(word))
        self.assertEqual(back, way_back(order, word))

    def test_written_out(self):
        for order, word, expected in [
            ([2, 1, 0], "u", "u"), ([2, 1, 0], "l", "l"), ([2, 1, 0], "", ""), ([1, 0], "ul", ""), ([2, 0, 1], "l", ""),
        ]:
            self.assert_told(expected, way_back, order, word)

    def test_short_words(self):
        for size in range(2, 6):
            for order in all_orders(size):
                for word in words_of(0) + words_of(1) + words_of(2) + words_of(5):
                    self.assert_leads_back(order, word)

    def test_longer_words(self):
        for number, order in enumerate(some_orders([2, 3, 5, 7, 8, 9], 4)):
            for length in [0, 1, 17, 199, 200]:
                self.assert_leads_back(order, some_word(length, number))
            for word in ["u" * 200, "l" * 200, "ul" * 100]:
                self.assert_leads_back(order, word)


class ComesRoundTest(Case):
    def test_written_out(self):
        for order, word, expected in [
            ([2, 1, 0], "ul", 3), ([2, 1, 0], "", 1), ([1, 0], "ulu", 1), ([2, 1, 0], "u", 2), ([2, 0, 1], "l", 1),
            ([2, 1, 0], "uu", 1), ([3, 2, 1, 0], "u", 3), ([3, 2, 1, 0], "l", 3), ([1, 3, 2, 0], "u", 2),
            ([7, 6, 5, 4, 3, 2, 1, 0], "u", 7), ([7, 6, 5, 4, 3, 2, 1, 0], "u" * 40, 7), ([3, 2, 1, 0], "ul", 7),
        ]:
            self.assert_told(expected, comes_round, order, word)

    def assert_comes_round(self, order, word):
        row, many = quick_led(tuple(order), word), 1
        while row != tuple(order):
            row, many = quick_led(row, word), many + 1
        self.assertEqual(repr(many), repr(self.told(comes_round, order, word)))
        return many

    def test_again_and_again(self):
        for order in [order for size in range(2, 5) for order in all_orders(size)]:
            for word in words_of(0) + words_of(1) + words_of(2) + words_of(3):
                self.assert_comes_round(order, word)

    def test_drawn_words(self):
        found = []
        for number, order in enumerate(some_orders([5, 6, 7, 8], 4)):
            for length in [0, 1, 2, 5, 40]:
                found.append(self.assert_comes_round(order, some_word(length, 7 * number)))
        self.assertGreater(max(found), 100)

    def test_the_largest_class_of_eight(self):
        order = [1, 3, 0, 5, 4, 7, 2, 6]
        for word in [some_word(40, seed) for seed in range(5)]:
            self.assert_comes_round(order, word)


class CountsOfWordsTest(Case):
    def test_written_out(self):
        for one, other, length, expected in [
            ([2, 1, 0], [2, 1, 0], 2, 2), ([2, 1, 0], [2, 0, 1], 0, 0), ([2, 1, 0], [2, 1, 0], 0, 1),
            ([1, 0], [1, 0], 60, 2 ** 60), ([2, 1, 0], [2, 0, 1], 1, 1), ([2, 1, 0], [2, 1, 0], 1, 0),
            ([3, 2, 1, 0], [3, 1, 2, 0], 0, 0), ([3, 2, 1, 0], [3, 1, 2, 0], 60, 0), ([2, 1, 0], [2, 1, 0], 3, 2),
        ]:
            self.assert_told(expected, how_many_words, one, other, length)

    def test_against_all_words(self):
        for size, most in [(2, 6), (3, 8), (4, 6)]:
            for one in all_orders(size):
                for length in range(most + 1):
                    ends = [quick_led(tuple(one), word) for word in words_of(length)]
                    for other in all_orders(size):
                        self.assert_words(one, other, length, ends)

    def test_drawn_orders_against_all_words(self):
        for one in some_orders([5, 6, 7], 3):
            for length in [0, 1, 5, 9]:
                ends = [quick_led(tuple(one), word) for word in words_of(length)]
                for end in sorted(set(ends))[:8]:
                    self.assert_words(one, list(end), length, ends)

    def assert_words(self, one, other, length, ends):
        words = [word for word, end in zip(words_of(length), ends) if end == tuple(other)]
        self.assertEqual(repr(len(words)), repr(self.told(how_many_words, one, other, length)))
        self.assertEqual(words, [word_numbered(one, other, length, number) for number in range(len(words))])
        for number in [-1, len(words)]:
            self.assert_refused(InvalidNumber, number, word_numbered, one, other, length, number)

    def test_both_sums(self):
        for size, lengths in [(2, [0, 5, 60]), (3, [0, 1, 9, 60]), (4, [0, 1, 2, 30, 60]), (5, [7, 60])]:
            orders = all_orders(size)
            for one in orders[::size]:
                for length in lengths:
                    self.assertEqual(2 ** length, sum(how_many_words(one, other, length) for other in orders))
                    self.assertEqual(2 ** length, sum(how_many_words(other, one, length) for other in orders))

    def test_numbers_written_out(self):
        for one, other, length, number, expected in [
            ([2, 1, 0], [2, 1, 0], 2, 0, "ll"), ([2, 1, 0], [2, 1, 0], 2, 1, "uu"), ([1, 0], [1, 0], 3, 5, "ulu"),
            ([2, 1, 0], [2, 1, 0], 0, 0, ""), ([1, 0], [1, 0], 60, 0, "l" * 60),
            ([1, 0], [1, 0], 60, 1, "l" * 59 + "u"),
            ([1, 0], [1, 0], 60, 2 ** 60 - 1, "u" * 60), ([1, 0], [1, 0], 60, 2 ** 59, "u" + "l" * 59),
        ]:
            self.assert_told(expected, word_numbered, one, other, length, number)

    def test_long_words_of_seven_letters(self):
        for one, other in [(SEVEN, SEVEN), (SEVEN, led(SEVEN, "uull")), (BENT_SEVEN, led(BENT_SEVEN, "lulul"))]:
            many = self.told(how_many_words, one, other, 60)
            words = []
            for number in [0, 1, many // 3, many // 2, many - 2, many - 1]:
                words.append(self.told(word_numbered, one, other, 60, number))
                self.assertEqual(60, len(words[-1]))
                self.assertEqual(tuple(other), quick_led(tuple(one), words[-1]))
            self.assertEqual(sorted(set(words)), words)
            self.assert_refused(InvalidNumber, many, word_numbered, one, other, 60, many)

    def test_long_words_in_order(self):
        # The number of a word is how many words of the length stand ahead of it, told here by its first signs.
        one, other = [3, 1, 4, 2, 0], [3, 1, 4, 2, 0]
        many = how_many_words(one, other, 40)
        for number in [0, 7, many // 3, many - 1]:
            word = word_numbered(one, other, 40, number)
            ahead = 0
            for at in range(40):
                if word[at] == "u":
                    ahead += how_many_words(led(one, word[:at] + "l"), other, 39 - at)
            self.assertEqual(number, ahead)


class RefusedTest(Case):
    def test_orders(self):
        for function, more in OF_TWO_ORDERS.items():
            for value in NOT_ORDERS:
                self.assert_refused(InvalidOrder, value, function, value, [2, 1, 0], *more)
                self.assert_refused(InvalidOrder, value, function, [2, 1, 0], value, *more)
                self.assert_refused(InvalidOrder, value, function, value, [0, 1], *[None] * len(more))
                self.assert_refused(InvalidOrder, value, function, [3, 2, 1, 0], value, *[None] * len(more))
        for function in OF_AN_ORDER_AND_A_WORD:
            for value in NOT_ORDERS:
                self.assert_refused(InvalidOrder, value, function, value, "u")
                self.assert_refused(InvalidOrder, value, function, value, "x")

    def test_unlike_sizes(self):
        for function, more in OF_TWO_ORDERS.items():
            for one, other in [([1, 0], [2, 1, 0]), ([2, 1, 0], [1, 0]), ([2, 1, 0], TURNED_40), (SEVEN, [1, 0])]:
                self.assert_refused(Unlike, other, function, one, other, *more)
                self.assert_refused(Unlike, other, function, one, other, *[None] * len(more))

    def test_words(self):
        for function in OF_AN_ORDER_AND_A_WORD:
            for value in NOT_WORDS:
                self.assert_refused(InvalidWord, value, function, [2, 1, 0], value)

    def test_lengths(self):
        for value in NOT_WHOLE + [-1, -60, -10 ** 29]:
            self.assert_refused(InvalidNumber, value, how_many_words, [2, 1, 0], [2, 1, 0], value)
            for number in [0, -1, None, 10 ** 29]:
                self.assert_refused(InvalidNumber, value, word_numbered, [2, 1, 0], [2, 1, 0], value, number)

    def test_numbers(self):
        for value in NOT_WHOLE + [-1, 2, 3, 10 ** 29, -10 ** 29]:
            self.assert_refused(InvalidNumber, value, word_numbered, [2, 1, 0], [2, 1, 0], 2, value)
        for value in NOT_WHOLE + [-1, -10 ** 29]:
            self.assert_refused(InvalidNumber, value, word_numbered, TURNED_40, TURNED_40, 60, value)
        for value in [0, 1, -1, False]:
            self.assert_refused(InvalidNumber, value, word_numbered, [2, 1, 0], [2, 0, 1], 0, value)
            self.assert_refused(InvalidNumber, value, word_numbered, [3, 2, 1, 0], [3, 1, 2, 0], 5, value)


if __name__ == "__main__":
    unittest.main()
