"""Points [38] and [39]."""

import unittest

from tests.case import Case
from tests.model import (
    all_orders, deed_with_lengths, deeds_one_by_one, large_lines, quick_led, runs_of_word, small_lines, some_lengths,
    some_orders, some_runs, word_of_runs,
)
from tests.wrong import NOT_LENGTHS, NOT_ORDERS, NOT_RUNS, TURNED_40
from turnlines.deeds import done, ring_size
from turnlines.errors import InvalidLengths, InvalidOrder, InvalidRun
from turnlines.runs import end_of, is_runs, led_by_runs, runs_of, taken, takes_first
from turnlines.tables import lengths_ahead

TURNED = [2, 1, 0]
FAR = 10 ** 29
MOST = 10 ** 30 - 1

# Small lines whose letters are of very unlike lengths, so that runs get long.
UNLIKE_LINES = [
    (order, lengths)
    for most in [40, 300]
    for order, lengths in zip(some_orders([3, 4, 5, 7], 6), some_lengths(sorted([3, 4, 5, 7] * 6), most, most))
]


class TakenTest(Case):
    def test_written_out(self):
        for order, lengths, expected in [
            (TURNED, [2, 1, 3], ("u", [2, 0, 1], [2, 1, 1])), (TURNED, [4, 1, 3], ("l", [1, 2, 0], [1, 3, 1])),
            (TURNED, [3, 1, 3], None), ([1, 0], [1, 1], None), ([1, 0], [1, 2], ("u", [1, 0], [1, 1])),
            ([1, 0], [2, 1], ("l", [1, 0], [1, 1])), ([1, 0], [FAR, MOST], ("u", [1, 0], [FAR, MOST - FAR])),
            ([1, 3, 0, 2], [5, 6, 9, 4], ("l", [1, 3, 0, 2], [5, 6, 5, 4])),
            ([1, 3, 0, 2], [5, 6, 4, 9], ("u", [1, 3, 2, 0], [5, 6, 4, 5])),
            ([3, 0, 2, 1], [5, 9, 7, 8], ("l", [2, 0, 3, 1], [5, 1, 8, 7])),
        ]:
            self.assert_told(expected, taken, order, lengths)

    def test_both_last_letters(self):
        for order, lengths in small_lines() + large_lines():
            above, below = lengths[-1], lengths[order[-1]]
            if above == below:
                self.assert_told(None, taken, order, lengths)
            else:
                deed = "u" if above > below else "l"
                expected = (deed, *deed_with_lengths(order, lengths, deed))
                self.assert_told(expected, taken, order, lengths)
                self.assertEqual(done(order, deed), taken(order, lengths)[1])

    def test_new_lists(self):
        deed, order, lengths = taken(TURNED, [2, 1, 3])
        order[:], lengths[:] = [], []
        self.assert_told(("u", [2, 0, 1], [2, 1, 1]), taken, TURNED, [2, 1, 3])


class IsRunsTest(Case):
    def test_runs(self):
        for value in [
            [], [("u", 1)], [("l", 1)], [("u", 2), ("l", 1)], [("l", MOST), ("u", MOST), ("l", 1)],
            some_runs(2000, MOST, 1), [("u", 1), ("l", 1)] * 1000, [("u", 10 ** 40)], [("u", 1), ("l", 1)] * 1500,
        ]:
            self.assert_told(True, is_runs, value)

    def test_other_values(self):
        for value in NOT_RUNS:
            self.assert_told(False, is_runs, value)
        runs = some_runs(2000, 9, 2)
        for wrong in [runs[:-1] + runs[-2:-1], runs[1:2] + runs[1:], runs[:999] + [("u", 0)] + runs[1000:]]:
            self.assert_told(False, is_runs, wrong)


class LedByRunsTest(Case):
    def test_written_out(self):
        for order, runs, expected in [
            (TURNED, [("u", 3), ("l", 1)], [2, 0, 1]), (TURNED, [], TURNED), ([1, 0], [("u", MOST)], [1, 0]),
            ([3, 2, 1, 0], [("u", 1), ("l", 1)], [2, 0, 3, 1]), ([3, 2, 1, 0], [("l", 3 * FAR + 2)], [2, 1, 3, 0]),
            ([3, 2, 1, 0], [("u", 3)], [3, 2, 1, 0]), ([3, 2, 1, 0], [("u", 3), ("l", 3)], [3, 2, 1, 0]),
        ]:
            self.assert_told(expected, led_by_runs, order, runs)

    def test_deed_by_deed(self):
        for number, order in enumerate([order for size in range(2, 6) for order in all_orders(size)]):
            for many in [0, 1, 2, 5]:
                runs = some_runs(many, 7, number)
                expected = list(quick_led(tuple(order), word_of_runs(runs)))
                self.assertEqual(repr(expected), repr(self.told(led_by_runs, order, runs)))
        for number, order in enumerate(some_orders([6, 9, 20, 39, 40], 2)):
            runs = some_runs(12, 80, number)
            self.assertEqual(list(quick_led(tuple(order), word_of_runs(runs))), led_by_runs(order, runs))

    def test_large_times(self):
        for number, order in enumerate(some_orders([2, 3, 7, 40], 3)):
            row, runs = order, some_runs(30, MOST, number)
            for deed, times in runs:
                row = list(quick_led(tuple(row), deed * (times % ring_size(row, deed))))
            self.assert_told(row, led_by_runs, order, runs)

    def test_as_many_tuples_as_may_be(self):
        for order in [TURNED_40, list(range(1, 40)) + [0]]:
            runs = some_runs(2000, MOST, 5)
            row = tuple(order)
            for deed, times in runs:
                row = quick_led(row, deed * (times % ring_size(list(row), deed)))
            self.assert_told(list(row), led_by_runs, order, runs)

    def test_a_new_list(self):
        self.assert_new_lists(led_by_runs, TURNED, [])
        self.assert_new_lists(led_by_runs, TURNED, [("u", 2)])


class RunsOfTest(Case):
    def test_written_out(self):
        for order, lengths, runs, end in [
            (TURNED, [2, 1, 6], [("u", 3)], ([2, 0, 1], [2, 1, 1])), (TURNED, [3, 1, 3], [], (TURNED, [3, 1, 3])),
            ([1, 0], [FAR, 3], [("l", 33333333333333333333333333333), ("u", 2)], ([1, 0], [1, 1])),
            ([1, 0], [1, 1], [], ([1, 0], [1, 1])), ([1, 0], [1, MOST], [("u", MOST - 1)], ([1, 0], [1, 1])),
            ([1, 0], [4, 6], [("u", 1), ("l", 1)], ([1, 0], [2, 2])),
            ([1, 0], [8, 5], [("l", 1), ("u", 1), ("l", 1), ("u", 1)], ([1, 0], [1, 1])),
            ([1, 0], [FAR, 2 * FAR], [("u", 1)], ([1, 0], [FAR, FAR])),
            (TURNED, [2, 2, 9], [("u", 4), ("l", 1), ("u", 1)], ([1, 2, 0], [1, 1, 1])),
        ]:
            self.assert_told(runs, runs_of, order, lengths)
            self.assert_told(end, end_of, order, lengths)

    def test_deed_by_deed(self):
        for order, lengths in small_lines() + UNLIKE_LINES:
            word, row, left = deeds_one_by_one(order, lengths)
            self.assertEqual(repr(runs_of_word(word)), repr(self.told(runs_of, order, lengths)))
            self.assertEqual(repr((row, left)), repr(self.told(end_of, order, lengths)))

    def test_large_lines(self):
        for order, lengths in large_lines():
            runs, (row, left) = self.told(runs_of, order, lengths), self.told(end_of, order, lengths)
            self.assertIs(True, is_runs(runs))
            self.assertEqual(row, led_by_runs(order, runs))
            self.assertEqual(left[-1], left[row[-1]])
            self.assertIs(None, taken(row, left))
            self.assertEqual(lengths, lengths_ahead(order, runs, left))

    def test_first_deeds_of_large_lines(self):
        for order, lengths in large_lines():
            word, row, left = "", order, lengths
            while len(word) < 60 and taken(row, left) is not None:
                deed, row, left = taken(row, left)
                word += deed
            told = runs_of(order, lengths)
            start = word_of_runs([(deed, min(times, 60)) for deed, times in told[:60]])
            self.assertEqual(word[:len(start)], start[:len(word)])

    def test_two_letters_as_in_division(self):
        one, other = 10 ** 30 - 7, 618033988749894848204586834365
        runs, (row, left) = runs_of([1, 0], [one, other]), end_of([1, 0], [one, other])
        self.assertEqual(([1, 0], left[0]), (row, left[1]))
        for deed, times in runs[:-1]:
            self.assertEqual(times, max(one, other) // min(one, other))
            one, other = (one, other % one) if deed == "u" else (one % other, other)

    def test_new_lists(self):
        self.assert_new_lists(runs_of, TURNED, [2, 1, 6])
        order, lengths = [1, 0], [1, 1]
        row, left = end_of(order, lengths)
        self.assertIsNot(row, order)
        self.assertIsNot(left, lengths)


class TakesFirstTest(Case):
    def test_written_out(self):
        for order, lengths, runs, expected in [
            (TURNED, [2, 1, 6], [("u", 2)], True), (TURNED, [2, 1, 6], [("u", 4)], False),
            (TURNED, [2, 1, 6], [("u", 3)], True), (TURNED, [2, 1, 6], [("u", 3), ("l", 1)], False),
            (TURNED, [2, 1, 6], [], True), (TURNED, [2, 1, 6], [("l", 1)], False), (TURNED, [3, 1, 3], [], True),
            (TURNED, [3, 1, 3], [("u", 1)], False), (TURNED, [3, 1, 3], [("l", 1)], False),
            ([1, 0], [4, 7], [("u", 1), ("l", 1)], True), ([1, 0], [4, 7], [("u", 1), ("l", 2)], False),
            ([1, 0], [4, 7], [("u", 1), ("l", 1), ("u", 1)], True),
            ([1, 0], [4, 7], [("u", 1), ("l", 1), ("u", 2)], True),
            ([1, 0], [4, 7], [("u", 1), ("l", 1), ("u", 3)], False), ([1, 0], [3, 9], [("u", 2)], True),
            ([1, 0], [3, 9], [("u", 3)], False), ([1, 0], [1, MOST], [("u", MOST - 1)], True),
            ([1, 0], [1, MOST], [("u", MOST)], False), ([1, 0], [3, 10], [("u", 2), ("l", 1)], False),
        ]:
            self.assert_told(expected, takes_first, order, lengths, runs)

    def test_against_the_deeds(self):
        for order, lengths in small_lines()[::4] + UNLIKE_LINES:
            word, _, _ = deeds_one_by_one(order, lengths)
            for cut in range(len(word) + 1):
                self.assertIs(True, self.told(takes_first, order, lengths, runs_of_word(word[:cut])))
                for deed in "ul":
                    further = word[:cut] + deed
                    self.assertIs(word.startswith(further), takes_first(order, lengths, runs_of_word(further)))

    def test_bent_runs(self):
        for order, lengths in UNLIKE_LINES + large_lines():
            runs = runs_of(order, lengths)[:40]
            self.assertIs(True, self.told(takes_first, order, lengths, runs))
            for at in range(0, len(runs), 5):
                deed, times = runs[at]
                longer, shorter = runs[:at] + [(deed, times + 1)], runs[:at] + [(deed, max(times - 1, 1))]
                self.assertIs(False, takes_first(order, lengths, longer + runs[at + 1:]))
                self.assertIs(False, takes_first(order, lengths, longer))
                self.assertIs(True, takes_first(order, lengths, shorter))
                if times > 1 and at + 1 < len(runs):
                    self.assertIs(False, takes_first(order, lengths, shorter + runs[at + 1:]))

    def test_just_behind_the_taking(self):
        for order, lengths in UNLIKE_LINES + large_lines():
            runs = runs_of(order, lengths)
            self.assertIs(True, takes_first(order, lengths, runs))
            other = "u" if runs and runs[-1][0] == "l" else "l"
            self.assertIs(False, takes_first(order, lengths, runs + [(other, 1)]))


class RefusedTest(Case):
    def test_orders(self):
        for value in NOT_ORDERS:
            for function, more in [
                (taken, [[1, 1, 1]]), (led_by_runs, [[]]), (runs_of, [[1, 1, 1]]), (end_of, [[1, 1, 1]]),
                (takes_first, [[1, 1, 1], []]),
            ]:
                self.assert_refused(InvalidOrder, value, function, value, *more)
                self.assert_refused(InvalidOrder, value, function, value, *[None] * len(more))

    def test_lengths(self):
        for value in NOT_LENGTHS:
            for function in [taken, runs_of, end_of]:
                self.assert_refused(InvalidLengths, value, function, TURNED, value)
            self.assert_refused(InvalidLengths, value, takes_first, TURNED, value, [])
            self.assert_refused(InvalidLengths, value, takes_first, TURNED, value, None)

    def test_runs(self):
        for value in NOT_RUNS:
            self.assert_refused(InvalidRun, value, led_by_runs, TURNED, value)
            self.assert_refused(InvalidRun, value, takes_first, TURNED, [1, 1, 1], value)


if __name__ == "__main__":
    unittest.main()
