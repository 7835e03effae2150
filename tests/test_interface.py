"""The names and arguments of the document's interface, each in its own file ([1])."""

import importlib
import inspect
import unittest

FUNCTIONS = {
    "turnlines.orders": [
        "is_order(value)", "falls_at(row)", "how_many_orders(size)", "orders_of(size)", "turned_row(size)",
        "exchanged(order)", "mirrored(order)",
    ],
    "turnlines.deeds": [
        "done(order, deed)", "undone(order, deed)", "left_done(order, deed)", "ring_size(order, deed)",
        "is_word(value)", "led(order, word)", "led_back(order, word)",
    ],
    "turnlines.corners": [
        "next_gap(order, gap)", "corners(order)", "sizes(order)", "marked_size(order)", "genus(order)",
        "with_letter(order, gap, place)", "struck(order, letter)", "order_with(sizes, marked)",
    ],
    "turnlines.cores": ["lone_gaps(order)", "core_walk(order)", "core(order)", "is_core(order)"],
    "turnlines.forms": [
        "is_set(order, value)", "crossings(order)", "form(order, letters)", "meets(order, one, other)",
        "is_silent(order, letters)", "silent_sets(order)", "corner_set(order, number)",
    ],
    "turnlines.setcounts": [
        "how_many_sets(order, bit)", "sign_sum(order)", "set_number(order, letters)",
        "set_numbered(order, bit, number)", "set_ahead(order, deed, letters)",
    ],
    "turnlines.folds": [
        "word_to(order)", "how_many_turned(size)", "turned_number(order)", "turned_numbered(size, number)",
        "is_folded(order)",
    ],
    "turnlines.standards": [
        "is_standard(value)", "how_many_standard(size)", "standard_with(inside)", "inside_of(order)",
        "word_to_standard(order)", "is_word_to_standard(order, value)", "four_runs(order, ups, lows)",
    ],
    "turnlines.joining": ["signs(order)", "unlike_sign(one, other)", "joined(one, other)"],
    "turnlines.ways": [
        "shortest_way(one, other)", "is_way(one, other, value)", "way_back(order, word)", "comes_round(order, word)",
        "how_many_words(one, other, length)", "word_numbered(one, other, length, number)",
    ],
    "turnlines.classes": [
        "class_size(order)", "class_orders(order)", "class_number(order)", "class_numbered(order, number)",
        "next_in_class(order)", "classes(size)", "class_signs(size)",
    ],
    "turnlines.exchanges": [
        "led_cell(order, lengths, cell)", "cell_ahead(order, lengths, cell)", "letter_of(order, lengths, cell)",
        "led_times(order, lengths, cell, count)",
    ],
    "turnlines.rounds": [
        "round_time(order, lengths, cell)", "first_cell(order, lengths, cell)", "turns_to(order, lengths, one, other)",
        "rounds(order, lengths)", "are_one_round(order, lengths)", "first_cells(order, lengths)",
    ],
    "turnlines.kinds": ["round_counts(order, lengths, cell)", "kinds(order, lengths)"],
    "turnlines.runs": [
        "taken(order, lengths)", "is_runs(value)", "led_by_runs(order, runs)", "runs_of(order, lengths)",
        "end_of(order, lengths)", "takes_first(order, lengths, runs)",
    ],
    "turnlines.tables": [
        "runs_table(order, runs)", "lengths_ahead(order, runs, lengths)", "times_of(order, runs)",
        "signed_crossings(order)", "never_winning(order, runs)", "positive_power(order, runs)",
        "runs_from(order, table)",
    ],
    "turnlines.grown": ["grown_sets(order)", "how_many_grown(order)"],
}

CALLS_BY_NAME = {
    "is_order": ({"value": [1, 0]}, True),
    "falls_at": ({"row": [0, 1]}, 1),
    "how_many_orders": ({"size": 3}, 3),
    "orders_of": ({"size": 2}, [[1, 0]]),
    "turned_row": ({"size": 3}, [2, 1, 0]),
    "exchanged": ({"order": [2, 0, 1]}, [1, 2, 0]),
    "mirrored": ({"order": [2, 0, 1]}, [1, 2, 0]),
    "done": ({"deed": "u", "order": [2, 1, 0]}, [2, 0, 1]),
    "undone": ({"deed": "u", "order": [2, 0, 1]}, [2, 1, 0]),
    "left_done": ({"deed": "u", "order": [2, 1, 0]}, [1, 2, 0]),
    "ring_size": ({"deed": "u", "order": [2, 1, 0]}, 2),
    "is_word": ({"value": "ul"}, True),
    "led": ({"word": "ul", "order": [2, 0, 1]}, [1, 2, 0]),
    "led_back": ({"word": "ul", "order": [1, 2, 0]}, [2, 0, 1]),
    "next_gap": ({"gap": 3, "order": [3, 2, 1, 0]}, 0),
    "corners": ({"order": [2, 1, 0]}, [[0, 2], [1]]),
    "sizes": ({"order": [2, 1, 0]}, [1, 1]),
    "marked_size": ({"order": [3, 2, 1, 0]}, 3),
    "genus": ({"order": [3, 2, 1, 0]}, 2),
    "with_letter": ({"place": 2, "gap": 1, "order": [2, 1, 0]}, [3, 2, 1, 0]),
    "struck": ({"letter": 1, "order": [3, 2, 1, 0]}, [2, 1, 0]),
    "order_with": ({"marked": 1, "sizes": [1]}, [1, 0]),
    "lone_gaps": ({"order": [2, 1, 0]}, [1]),
    "core_walk": ({"order": [2, 1, 0]}, [("out", 1)]),
    "core": ({"order": [2, 1, 0]}, [1, 0]),
    "is_core": ({"order": [2, 1, 0]}, False),
    "is_set": ({"value": [0, 2], "order": [2, 1, 0]}, True),
    "crossings": ({"order": [2, 0, 1]}, [(0, 2), (1, 2)]),
    "form": ({"letters": [0, 1, 2], "order": [2, 1, 0]}, 0),
    "meets": ({"other": [0, 1], "one": [0], "order": [2, 1, 0]}, 1),
    "is_silent": ({"letters": [0, 1, 2], "order": [2, 1, 0]}, True),
    "silent_sets": ({"order": [2, 1, 0]}, [[0, 1, 2]]),
    "corner_set": ({"number": 1, "order": [2, 1, 0]}, [0, 1, 2]),
    "how_many_sets": ({"bit": 0, "order": [2, 1, 0]}, 2),
    "sign_sum": ({"order": [2, 1, 0]}, -4),
    "set_number": ({"letters": [0, 1, 2], "order": [2, 1, 0]}, 1),
    "set_numbered": ({"number": 2, "bit": 1, "order": [1, 0]}, [1]),
    "set_ahead": ({"letters": [0], "deed": "u", "order": [2, 1, 0]}, [0, 2]),
    "word_to": ({"order": [2, 0, 3, 1]}, "ul"),
    "how_many_turned": ({"size": 4}, 7),
    "turned_number": ({"order": [2, 0, 3, 1]}, 5),
    "turned_numbered": ({"number": 5, "size": 4}, [2, 0, 3, 1]),
    "is_folded": ({"order": [3, 1, 2, 0]}, True),
    "is_standard": ({"value": [3, 1, 2, 0]}, True),
    "how_many_standard": ({"size": 6}, 24),
    "standard_with": ({"inside": [1, 0]}, [3, 2, 1, 0]),
    "inside_of": ({"order": [4, 2, 1, 3, 0]}, [1, 0, 2]),
    "word_to_standard": ({"order": [3, 1, 2, 0]}, ""),
    "is_word_to_standard": ({"value": "ll", "order": [1, 2, 3, 0]}, True),
    "four_runs": ({"lows": 1, "ups": 3, "order": [4, 1, 3, 2, 0]}, "uuulull"),
    "signs": ({"order": [2, 1, 0]}, ([1, 1], 1, -4, True)),
    "unlike_sign": ({"other": [3, 1, 2, 0], "one": [3, 2, 1, 0]}, 0),
    "joined": ({"other": [1, 2, 0], "one": [2, 0, 1]}, True),
    "shortest_way": ({"other": [1, 2, 0], "one": [2, 0, 1]}, "ul"),
    "is_way": ({"value": "ul", "other": [1, 2, 0], "one": [2, 0, 1]}, True),
    "way_back": ({"word": "u", "order": [2, 1, 0]}, "u"),
    "comes_round": ({"word": "ul", "order": [2, 1, 0]}, 3),
    "how_many_words": ({"length": 1, "other": [2, 0, 1], "one": [2, 1, 0]}, 1),
    "word_numbered": ({"number": 0, "length": 2, "other": [1, 2, 0], "one": [2, 0, 1]}, "ul"),
    "class_size": ({"order": [3, 2, 1, 0]}, 7),
    "class_orders": ({"order": [2, 1, 0]}, [[1, 2, 0], [2, 0, 1], [2, 1, 0]]),
    "class_number": ({"order": [3, 2, 1, 0]}, 6),
    "class_numbered": ({"number": 2, "order": [3, 2, 1, 0]}, [2, 0, 3, 1]),
    "next_in_class": ({"order": [2, 0, 3, 1]}, [2, 1, 3, 0]),
    "classes": ({"size": 4}, [([1, 2, 3, 0], 6), ([1, 3, 0, 2], 7)]),
    "class_signs": ({"size": 2}, [([1], 1, -2, True)]),
    "led_cell": ({"cell": 0, "lengths": [2, 1, 3], "order": [2, 1, 0]}, 4),
    "cell_ahead": ({"cell": 0, "lengths": [2, 1, 3], "order": [2, 1, 0]}, 3),
    "letter_of": ({"cell": 2, "lengths": [2, 1, 3], "order": [2, 1, 0]}, 1),
    "led_times": ({"count": 2, "cell": 0, "lengths": [2, 1, 3], "order": [2, 1, 0]}, 1),
    "round_time": ({"cell": 0, "lengths": [2, 1, 3], "order": [2, 1, 0]}, 6),
    "first_cell": ({"cell": 4, "lengths": [2, 1, 3], "order": [2, 1, 0]}, 0),
    "turns_to": ({"other": 2, "one": 0, "lengths": [2, 1, 3], "order": [2, 1, 0]}, 4),
    "rounds": ({"lengths": [4, 6], "order": [1, 0]}, [(5, 2)]),
    "are_one_round": ({"lengths": [2, 1, 3], "order": [2, 1, 0]}, True),
    "first_cells": ({"lengths": [4, 6], "order": [1, 0]}, [(0, 2, 5)]),
    "round_counts": ({"cell": 0, "lengths": [2, 1, 3], "order": [2, 1, 0]}, [2, 1, 3]),
    "kinds": ({"lengths": [1, 2, 1], "order": [2, 1, 0]}, [([0, 1, 0], 2), ([1, 0, 1], 1)]),
    "taken": ({"lengths": [2, 1, 3], "order": [2, 1, 0]}, ("u", [2, 0, 1], [2, 1, 1])),
    "is_runs": ({"value": [("u", 2), ("l", 1)]}, True),
    "led_by_runs": ({"runs": [("u", 3), ("l", 1)], "order": [2, 1, 0]}, [2, 0, 1]),
    "runs_of": ({"lengths": [2, 1, 6], "order": [2, 1, 0]}, [("u", 3)]),
    "end_of": ({"lengths": [2, 1, 6], "order": [2, 1, 0]}, ([2, 0, 1], [2, 1, 1])),
    "takes_first": ({"runs": [("u", 2)], "lengths": [2, 1, 6], "order": [2, 1, 0]}, True),
    "runs_table": ({"runs": [("u", 2), ("l", 1)], "order": [1, 0]}, [[1, 1], [2, 3]]),
    "lengths_ahead": ({"lengths": [2, 1, 1], "runs": [("u", 3)], "order": [2, 1, 0]}, [2, 1, 6]),
    "times_of": ({"runs": [("u", 3)], "order": [2, 1, 0]}, [3, 2, 1]),
    "signed_crossings": ({"order": [1, 0]}, [[0, 1], [-1, 0]]),
    "never_winning": ({"runs": [("u", 2), ("l", 2)], "order": [2, 1, 0]}, [1]),
    "positive_power": ({"runs": [("u", 2), ("l", 1)], "order": [1, 0]}, 1),
    "runs_from": ({"table": [[1, 1], [2, 3]], "order": [1, 0]}, [("u", 2), ("l", 1)]),
    "grown_sets": ({"order": [1, 0]}, [[0], [0, 1], [1]]),
    "how_many_grown": ({"order": [1, 0]}, 3),
}


def listed_functions():
    """Go through the functions that the interface lists."""
    for module_name, listed in FUNCTIONS.items():
        for text in listed:
            name = text.partition("(")[0]
            yield module_name, text, getattr(importlib.import_module(module_name), name)


class InterfaceTest(unittest.TestCase):
    def test_names_and_arguments(self):
        for module_name, text, function in listed_functions():
            self.assertEqual(text, function.__name__ + str(inspect.signature(function)))
            self.assertEqual(module_name, function.__module__)

    def test_arguments_by_name(self):
        for _, _, function in listed_functions():
            arguments, expected = CALLS_BY_NAME[function.__name__]
            self.assertEqual(repr(expected), repr(function(**arguments)))


if __name__ == "__main__":
    unittest.main()
