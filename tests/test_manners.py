"""Point [2] for all functions of the interface: arguments, answers and refused orders."""

import copy
import unittest

from tests.case import Case
from tests.test_interface import listed_functions
from tests.wrong import NOT_ORDERS, TURNED_40
from turnlines.classes import (
    class_number, class_numbered, class_orders, class_signs, class_size, classes, next_in_class,
)
from turnlines.corners import corners, genus, marked_size, next_gap, order_with, sizes, struck, with_letter
from turnlines.cores import core, core_walk, is_core, lone_gaps
from turnlines.deeds import done, is_word, led, led_back, left_done, ring_size, undone
from turnlines.errors import InvalidLengths, InvalidOrder, InvalidRun, InvalidTable
from turnlines.exchanges import cell_ahead, led_cell, led_times, letter_of
from turnlines.folds import how_many_turned, is_folded, turned_number, turned_numbered, word_to
from turnlines.forms import corner_set, crossings, form, is_set, is_silent, meets, silent_sets
from turnlines.grown import grown_sets, how_many_grown
from turnlines.joining import joined, signs, unlike_sign
from turnlines.kinds import kinds, round_counts
from turnlines.orders import exchanged, falls_at, how_many_orders, is_order, mirrored, orders_of, turned_row
from turnlines.rounds import are_one_round, first_cell, first_cells, round_time, rounds, turns_to
from turnlines.runs import end_of, is_runs, led_by_runs, runs_of, taken, takes_first
from turnlines.setcounts import how_many_sets, set_ahead, set_number, set_numbered, sign_sum
from turnlines.standards import (
    four_runs, how_many_standard, inside_of, is_standard, is_word_to_standard, standard_with, word_to_standard,
)
from turnlines.tables import (
    lengths_ahead, never_winning, positive_power, runs_from, runs_table, signed_crossings, times_of,
)
from turnlines.ways import comes_round, how_many_words, is_way, shortest_way, way_back, word_numbered

BENT = [1, 3, 2, 7, 6, 5, 4, 8, 0]
ORDERS = [[1, 0], [2, 1, 0], [1, 2, 0], [3, 2, 1, 0], [3, 1, 2, 0], BENT, [1, 3, 0, 2], TURNED_40]
SMALL_ORDERS = [[1, 0], [2, 1, 0], [1, 2, 0], [3, 2, 1, 0], [3, 1, 2, 0], [1, 3, 0, 2]]
STANDARD = [[1, 0], [2, 1, 0], [3, 1, 2, 0], [4, 1, 3, 2, 0], TURNED_40]

OF_ORDERS_ALONE = [
    is_order, exchanged, mirrored, corners, sizes, marked_size, genus, lone_gaps, core_walk, core, is_core, crossings,
    silent_sets, sign_sum, word_to, turned_number, is_folded, is_standard, word_to_standard, signs, signed_crossings,
]

# These tell whether any value is an order of some kind.
OF_VALUES = [is_order, is_standard]

# These go through all orders that deeds lead to, or through sets of letters.
OF_SMALL_ORDERS_ALONE = [class_size, class_orders, class_number, next_in_class, grown_sets, how_many_grown]

# Further arguments that are good beside any order.
WITH_MORE = {
    done: ["u"], undone: ["l"], left_done: ["u"], ring_size: ["l"], led: ["uul"], led_back: ["ul"],
    next_gap: [1], with_letter: [1, 0], struck: [0], is_set: [[0]], form: [[0, 1]], meets: [[0], [0, 1]],
    is_silent: [[]], corner_set: [0], how_many_sets: [0], set_number: [[0]], set_numbered: [1, 0],
    set_ahead: ["u", [0, 1]], is_word_to_standard: ["ul"],
}

WITH_MORE_SMALL = {class_numbered: [0], way_back: ["ul"], comes_round: ["ull"]}

# Orders with the lengths of their letters, and what may stand behind them.
LINES = [
    [[2, 1, 0], [2, 1, 3]], [[2, 1, 0], [1, 2, 1]], [[1, 0], [4, 6]], [[1, 0], [10 ** 29, 3]], [[1, 2, 0], [2, 1, 1]],
    [BENT, [3, 1, 4, 1, 5, 9, 2, 6, 5]], [BENT, [1] * 9], [TURNED_40, [10 ** 29 + letter for letter in range(40)]],
]
OF_LINES = {
    led_cell: [1], cell_ahead: [1], letter_of: [1], led_times: [1, -5], round_time: [1], first_cell: [1],
    turns_to: [1, 3], rounds: [], are_one_round: [], first_cells: [], round_counts: [1], kinds: [], taken: [],
    runs_of: [], end_of: [], takes_first: [[("u", 1)]],
}

# Orders with runs, and orders with runs that come round.
WITH_RUNS = [
    [[2, 1, 0], [("u", 3), ("l", 1)]], [[2, 1, 0], []], [[1, 0], [("u", 2), ("l", 10 ** 29)]], [BENT, [("l", 5)]],
    [[3, 2, 1, 0], [("u", 1), ("l", 1), ("u", 4)]], [TURNED_40, [("u", 7), ("l", 10 ** 29), ("u", 1)]],
]
COMING_ROUND = [
    [[2, 1, 0], [("u", 2), ("l", 2)]], [[1, 0], [("u", 2), ("l", 1)]], [[1, 0], [("u", 5)]], [BENT, [("l", 8)]],
    [[2, 3, 0, 1], [("l", 1), ("u", 1), ("l", 2), ("u", 1)]],
]
OF_RUNS = [led_by_runs, runs_table, times_of]
OF_RUNS_THAT_COME_ROUND = [never_winning, positive_power]

# Two orders of one size, and what may stand behind them.
PAIRS = [
    [[2, 1, 0], [1, 2, 0]], [[3, 2, 1, 0], [3, 1, 2, 0]], [[3, 2, 1, 0], [3, 2, 1, 0]], [[1, 3, 0, 2], [3, 1, 0, 2]],
]
OF_PAIRS = {unlike_sign: [], joined: [], shortest_way: [], is_way: ["lu"], how_many_words: [9]}

CALLS = {function: [[order] for order in ORDERS] for function in OF_ORDERS_ALONE}
CALLS.update({function: [[order] for order in SMALL_ORDERS] for function in OF_SMALL_ORDERS_ALONE})
CALLS.update({function: [[order, *more] for order in SMALL_ORDERS] for function, more in WITH_MORE_SMALL.items()})
CALLS.update({function: [line + more for line in LINES] for function, more in OF_LINES.items()})
CALLS.update({function: [pair + more for pair in PAIRS] for function, more in OF_PAIRS.items()})
CALLS.update({function: WITH_RUNS for function in OF_RUNS})
CALLS.update({function: COMING_ROUND for function in OF_RUNS_THAT_COME_ROUND})
CALLS.update({function: [[order, *more] for order in ORDERS[:-1]] for function, more in WITH_MORE.items()})
CALLS.update({
    falls_at: [[[0, 1]], [[1, 0]], [[1, 0, 2]], [TURNED_40]], how_many_orders: [[2], [100]], orders_of: [[2], [3], [5]],
    turned_row: [[2], [40]], is_word: [["ul"], [""], [["u"]]],
    led: [[[2, 1, 0], "ul"], [BENT, ""], [TURNED_40, "u" * 99]],
    corner_set: [[[2, 1, 0], 0], [[3, 1, 2, 0], 2], [BENT, 1]],
    set_number: [[[2, 1, 0], [0, 1, 2]], [[1, 0], []], [TURNED_40, [3, 5, 39]], [BENT, [0, 8]]],
    set_numbered: [[[2, 1, 0], 0, 0], [[1, 0], 1, 2], [BENT, 0, 100], [TURNED_40, 1, 10 ** 11]],
    set_ahead: [[[2, 1, 0], "l", [1]], [[2, 1, 0], "u", []], [[1, 0], "u", [0, 1]], [BENT, "l", [0, 1, 5]]],
    order_with: [[[1], 1], [[1, 2, 4], 2], [[3], 1], [[1, 2, 2], 2], [[2, 37], 2]],
    how_many_turned: [[2], [40]], turned_numbered: [[2, 0], [4, 5], [40, 0]], how_many_standard: [[2], [40]],
    standard_with: [[[]], [[0]], [[1, 0]], [[2, 0, 1]]], inside_of: [[order] for order in STANDARD],
    four_runs: [[[1, 0], 0, 0], [[2, 1, 0], 1, 0], [[4, 1, 3, 2, 0], 3, 1], [[4, 1, 3, 2, 0], 1, 1]],
    word_numbered: [[[2, 1, 0], [2, 1, 0], 2, 1], [[3, 2, 1, 0], [1, 3, 0, 2], 5, 0], [[1, 0], [1, 0], 60, 2 ** 59]],
    classes: [[2], [3], [5]], class_signs: [[2], [4], [6]],
    is_runs: [[[]], [[("u", 2), ("l", 1)]], [[("u", 0)]], [["u"]]],
    lengths_ahead: [[order, runs, list(range(1, len(order) + 1))] for order, runs in WITH_RUNS],
    runs_from: [[[1, 0], [[1, 1], [2, 3]]], [[1, 0], [[1, 0], [0, 1]]], [[2, 1, 0], [[1, 0, 0], [0, 1, 0], [1, 0, 1]]]],
})


def lists_in(value):
    """List all lists within a value, itself among them."""
    if not isinstance(value, (list, tuple)):
        return []
    found = [value] if isinstance(value, list) else []
    for item in value:
        found += lists_in(item)
    return found


def copies_of(calls):
    """Copy the arguments of each call for itself, so that no two calls share a list."""
    return [copy.deepcopy(args) for args in calls]


class MannersTest(Case):
    def test_all_functions_are_there(self):
        self.assertEqual({function for _, _, function in listed_functions()}, set(CALLS))
        self.assertEqual(93, len(CALLS))

    def test_equal_answers_and_unchanged_arguments(self):
        for function, calls in CALLS.items():
            answers = [self.told(function, *args) for args in copies_of(calls)]
            for args, answer in zip(copies_of(calls), answers):
                self.assert_told(answer, function, *args)

    def test_lists_are_new_and_stand_once(self):
        for function, calls in CALLS.items():
            for args in copies_of(calls):
                answer, again = function(*args), function(*args)
                held = lists_in(answer) + lists_in(again) + lists_in(args)
                self.assertEqual(len(held), len({id(one) for one in held}), (function, args))

    def test_changed_answers_have_no_effect(self):
        for function, calls in CALLS.items():
            for args in copies_of(calls):
                before = repr(args)
                answer = function(*args)
                expected = repr(answer)
                for one in lists_in(answer):
                    one[:] = ["changed"]
                self.assertEqual(before, repr(args), function)
                self.assertEqual(expected, repr(function(*args)), (function, args))

    def test_changed_arguments_have_no_effect(self):
        for function, calls in CALLS.items():
            for args in copies_of(calls):
                answer = function(*args)
                expected = repr(answer)
                for one in lists_in(args):
                    one[:] = ["changed"]
                self.assertEqual(expected, repr(answer), function)

    def test_lists_changed_in_place_are_looked_at_anew(self):
        for function, calls in CALLS.items():
            for one, other in zip(calls, calls[1:] + calls[:1]):
                args = copy.deepcopy(one)
                self.assertEqual(repr(function(*copy.deepcopy(one))), repr(function(*args)))
                for at, value in enumerate(other):
                    if isinstance(value, list) and isinstance(args[at], list):
                        args[at][:] = value
                    else:
                        args[at] = value
                self.assertEqual(repr(function(*copy.deepcopy(other))), repr(function(*args)), (function, other))

    def test_orders_broken_in_place_are_refused(self):
        all_more = {**dict.fromkeys(OF_ORDERS_ALONE + OF_SMALL_ORDERS_ALONE, []), **WITH_MORE, **WITH_MORE_SMALL}
        all_more.update({function: [[2, 1, 3], *more] for function, more in OF_LINES.items()})
        all_more.update({function: [[2, 1, 0], *more] for function, more in OF_PAIRS.items()})
        all_more.update({function: [[("u", 2)]] for function in OF_RUNS + OF_RUNS_THAT_COME_ROUND})
        all_more.update({lengths_ahead: [[("u", 2)], [2, 1, 3]], runs_from: [[[1, 0, 0], [0, 1, 0], [0, 0, 1]]]})
        for function, more in all_more.items():
            order = [2, 1, 0]
            function(order, *more)
            order[:] = [0, 1, 2]
            if function in OF_VALUES:
                self.assertIs(False, function(order))
            else:
                self.assert_refused(InvalidOrder, order, function, order, *more)


    def test_lengths_broken_in_place_are_refused(self):
        for function, more in OF_LINES.items():
            lengths = [2, 1, 3]
            function([2, 1, 0], lengths, *more)
            lengths[1] = 0
            self.assert_refused(InvalidLengths, lengths, function, [2, 1, 0], lengths, *more)

    def test_runs_and_tables_broken_in_place_are_refused(self):
        for function in OF_RUNS + OF_RUNS_THAT_COME_ROUND:
            runs = [("u", 2)]
            function([2, 1, 0], runs)
            runs.append(("u", 2))
            self.assert_refused(InvalidRun, runs, function, [2, 1, 0], runs)
        table = [[1, 1], [2, 3]]
        runs_from([1, 0], table)
        table[1][0] = -1
        self.assert_refused(InvalidTable, table, runs_from, [1, 0], table)


class OrdersRefusedTest(Case):
    def test_of_orders_alone(self):
        for function in OF_ORDERS_ALONE + OF_SMALL_ORDERS_ALONE:
            for value in NOT_ORDERS:
                if function not in OF_VALUES:
                    self.assert_refused(InvalidOrder, value, function, value)

    def test_ahead_of_all_other_arguments(self):
        for function, more in [*WITH_MORE.items(), *WITH_MORE_SMALL.items()]:
            for value in NOT_ORDERS:
                self.assert_refused(InvalidOrder, value, function, value, *more)
                for wrong in [None, -1, True, "x", [1, 0], (0,)]:
                    self.assert_refused(InvalidOrder, value, function, value, *[wrong] * len(more))


if __name__ == "__main__":
    unittest.main()
