"""Point [2] for the modules of the points [9] to [26]: arguments, answers and refused orders."""

import copy
import unittest

from tests.case import Case
from tests.wrong import NOT_ORDERS, TURNED_40
from turnlines.corners import corners, genus, marked_size, next_gap, order_with, sizes, struck, with_letter
from turnlines.cores import core, core_walk, is_core, lone_gaps
from turnlines.errors import InvalidOrder
from turnlines.folds import how_many_turned, is_folded, turned_number, turned_numbered, word_to
from turnlines.forms import corner_set, crossings, form, is_set, is_silent, meets, silent_sets
from turnlines.joining import joined, signs, unlike_sign
from turnlines.setcounts import how_many_sets, set_ahead, set_number, set_numbered, sign_sum
from turnlines.standards import (
    four_runs, how_many_standard, inside_of, is_standard, is_word_to_standard, standard_with, word_to_standard,
)

BENT = [1, 3, 2, 7, 6, 5, 4, 8, 0]
ORDERS = [[1, 0], [2, 1, 0], [1, 2, 0], [3, 2, 1, 0], [3, 1, 2, 0], BENT, [1, 3, 0, 2], TURNED_40]
STANDARD = [[1, 0], [2, 1, 0], [3, 1, 2, 0], [4, 1, 3, 2, 0], TURNED_40]

OF_ORDERS_ALONE = [
    corners, sizes, marked_size, genus, lone_gaps, core_walk, core, is_core, crossings, silent_sets, sign_sum, word_to,
    turned_number, is_folded, is_standard, word_to_standard, signs,
]

# Further arguments that are good beside any order.
WITH_MORE = {
    next_gap: [1], with_letter: [1, 0], struck: [0], is_set: [[0]], form: [[0, 1]], meets: [[0], [0, 1]],
    is_silent: [[]], corner_set: [0], how_many_sets: [0], set_number: [[0]], set_numbered: [1, 0],
    set_ahead: ["u", [0, 1]], is_word_to_standard: ["ul"],
}

CALLS = {function: [[order] for order in ORDERS] for function in OF_ORDERS_ALONE}
CALLS.update({function: [[order, *more] for order in ORDERS[:-1]] for function, more in WITH_MORE.items()})
CALLS.update({
    corner_set: [[[2, 1, 0], 0], [[3, 1, 2, 0], 2], [BENT, 1]],
    set_number: [[[2, 1, 0], [0, 1, 2]], [[1, 0], []], [TURNED_40, [3, 5, 39]], [BENT, [0, 8]]],
    set_numbered: [[[2, 1, 0], 0, 0], [[1, 0], 1, 2], [BENT, 0, 100], [TURNED_40, 1, 10 ** 11]],
    set_ahead: [[[2, 1, 0], "l", [1]], [[2, 1, 0], "u", []], [[1, 0], "u", [0, 1]], [BENT, "l", [0, 1, 5]]],
    order_with: [[[1], 1], [[1, 2, 4], 2], [[3], 1], [[1, 2, 2], 2], [[2, 37], 2]],
    how_many_turned: [[2], [40]], turned_numbered: [[2, 0], [4, 5], [40, 0]], how_many_standard: [[2], [40]],
    standard_with: [[[]], [[0]], [[1, 0]], [[2, 0, 1]]], inside_of: [[order] for order in STANDARD],
    four_runs: [[[1, 0], 0, 0], [[2, 1, 0], 1, 0], [[4, 1, 3, 2, 0], 3, 1], [[4, 1, 3, 2, 0], 1, 1]],
    unlike_sign: [[[2, 1, 0], [1, 2, 0]], [[3, 2, 1, 0], [3, 1, 2, 0]], [BENT, [1, 7, 6, 5, 4, 3, 2, 8, 0]]],
    joined: [[[2, 1, 0], [1, 2, 0]], [[3, 2, 1, 0], [3, 1, 2, 0]], [BENT, BENT[:]]],
})


def lists_in(value):
    """List all lists within a value, itself among them."""
    if not isinstance(value, (list, tuple)):
        return []
    found = [value] if isinstance(value, list) else []
    for item in value:
        found += lists_in(item)
    return found


def copies_of(calls):
    """Copy the arguments of each call for itself, so that no two calls share a list."""
    return [copy.deepcopy(args) for args in calls]


class MannersTest(Case):
    def test_all_functions_are_there(self):
        self.assertEqual(39, len(CALLS))

    def test_equal_answers_and_unchanged_arguments(self):
        for function, calls in CALLS.items():
            answers = [self.told(function, *args) for args in copies_of(calls)]
            for args, answer in zip(copies_of(calls), answers):
                self.assert_told(answer, function, *args)

    def test_lists_are_new_and_stand_once(self):
        for function, calls in CALLS.items():
            for args in copies_of(calls):
                answer, again = function(*args), function(*args)
                held = lists_in(answer) + lists_in(again) + lists_in(args)
                self.assertEqual(len(held), len({id(one) for one in held}), (function, args))

    def test_changed_answers_have_no_effect(self):
        for function, calls in CALLS.items():
            for args in copies_of(calls):
                before = repr(args)
                answer = function(*args)
                expected = repr(answer)
                for one in lists_in(answer):
                    one[:] = ["changed"]
                self.assertEqual(before, repr(args), function)
                self.assertEqual(expected, repr(function(*args)), (function, args))

    def test_changed_arguments_have_no_effect(self):
        for function, calls in CALLS.items():
            for args in copies_of(calls):
                answer = function(*args)
                expected = repr(answer)
                for one in lists_in(args):
                    one[:] = ["changed"]
                self.assertEqual(expected, repr(answer), function)

    def test_lists_changed_in_place_are_looked_at_anew(self):
        for function, calls in CALLS.items():
            for one, other in zip(calls, calls[1:] + calls[:1]):
                args = copy.deepcopy(one)
                self.assertEqual(repr(function(*copy.deepcopy(one))), repr(function(*args)))
                for at, value in enumerate(other):
                    if isinstance(value, list):
                        args[at][:] = value
                    else:
                        args[at] = value
                self.assertEqual(repr(function(*copy.deepcopy(other))), repr(function(*args)), (function, other))

    def test_orders_broken_in_place_are_refused(self):
        for function in [*OF_ORDERS_ALONE, *WITH_MORE]:
            order, more = [2, 1, 0], WITH_MORE.get(function, [])
            function(order, *more)
            order[:] = [0, 1, 2]
            if function == is_standard:
                self.assertIs(False, is_standard(order))
            else:
                self.assert_refused(InvalidOrder, order, function, order, *more)


class OrdersRefusedTest(Case):
    def test_of_orders_alone(self):
        for function in OF_ORDERS_ALONE:
            for value in NOT_ORDERS:
                if function != is_standard:
                    self.assert_refused(InvalidOrder, value, function, value)

    def test_ahead_of_all_other_arguments(self):
        for function, more in WITH_MORE.items():
            for value in NOT_ORDERS:
                self.assert_refused(InvalidOrder, value, function, value, *more)
                for wrong in [None, -1, True, "x", [1, 0], (0,)]:
                    self.assert_refused(InvalidOrder, value, function, value, *[wrong] * len(more))


if __name__ == "__main__":
    unittest.main()
