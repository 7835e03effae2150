"""The names and arguments of the document's interface, each in its own file ([1])."""

import importlib
import inspect
import unittest

FUNCTIONS = {
    "turnlines.orders": [
        "is_order(value)", "falls_at(row)", "how_many_orders(size)", "orders_of(size)", "turned_row(size)",
        "exchanged(order)", "mirrored(order)",
    ],
    "turnlines.deeds": [
        "done(order, deed)", "undone(order, deed)", "left_done(order, deed)", "ring_size(order, deed)",
        "is_word(value)", "led(order, word)", "led_back(order, word)",
    ],
}

CALLS_BY_NAME = {
    "is_order": ({"value": [1, 0]}, True),
    "falls_at": ({"row": [0, 1]}, 1),
    "how_many_orders": ({"size": 3}, 3),
    "orders_of": ({"size": 2}, [[1, 0]]),
    "turned_row": ({"size": 3}, [2, 1, 0]),
    "exchanged": ({"order": [2, 0, 1]}, [1, 2, 0]),
    "mirrored": ({"order": [2, 0, 1]}, [1, 2, 0]),
    "done": ({"deed": "u", "order": [2, 1, 0]}, [2, 0, 1]),
    "undone": ({"deed": "u", "order": [2, 0, 1]}, [2, 1, 0]),
    "left_done": ({"deed": "u", "order": [2, 1, 0]}, [1, 2, 0]),
    "ring_size": ({"deed": "u", "order": [2, 1, 0]}, 2),
    "is_word": ({"value": "ul"}, True),
    "led": ({"word": "ul", "order": [2, 0, 1]}, [1, 2, 0]),
    "led_back": ({"word": "ul", "order": [1, 2, 0]}, [2, 0, 1]),
}


def listed_functions():
    """Go through the functions that the interface lists."""
    for module_name, listed in FUNCTIONS.items():
        for text in listed:
            name = text.partition("(")[0]
            yield module_name, text, getattr(importlib.import_module(module_name), name)


class InterfaceTest(unittest.TestCase):
    def test_names_and_arguments(self):
        for module_name, text, function in listed_functions():
            self.assertEqual(text, function.__name__ + str(inspect.signature(function)))
            self.assertEqual(module_name, function.__module__)

    def test_arguments_by_name(self):
        for _, _, function in listed_functions():
            arguments, expected = CALLS_BY_NAME[function.__name__]
            self.assertEqual(repr(expected), repr(function(**arguments)))


if __name__ == "__main__":
    unittest.main()
