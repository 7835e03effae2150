"""The class of the turned row: words that lead it to orders, their numbers, and folded orders."""

from turnlines.checks import need_number
from turnlines.cores import core
from turnlines.deeds import deed_done, deed_undone, ring_size
from turnlines.orders import MOST_LETTERS, need_order, turned_row


def word_to(order):
    """Return the word of at most n - 2 deeds that leads the turned row to an order, None if there is none."""
    need_order(order)
    turned = turned_row(len(order))
    word, row = "", order
    for _ in range(len(order) - 1):
        ups, lows = ring_size(row, "u"), ring_size(row, "l")
        # In the class of the turned row only this one has rings of one size; elsewhere the larger ring tells the deed.
        if ups == lows:
            return word if row == turned else None
        deed = "u" if ups > lows else "l"
        word = deed + word
        row = deed_undone(row, deed)
    return None


def how_many_turned(size):
    """Return how many orders of a size some word leads the turned row to."""
    need_number(size, 2, MOST_LETTERS)
    return (1 << (size - 1)) - 1


def turned_number(order):
    """Return the number of an order in the class of the turned row, None if it has none."""
    word = word_to(order)
    if word is None:
        return None
    # The words in order, shorter ones first, are the binary numbers from 1 on without their first digit.
    number = 1
    for deed in word:
        number = 2 * number + (1 if deed == "u" else 0)
    return number - 1


def turned_numbered(size, number):
    """Return the order with a number in the class of the turned row."""
    need_number(number, 0, how_many_turned(size) - 1)
    row, digits = turned_row(size), number + 1
    for place in reversed(range(digits.bit_length() - 1)):
        row = deed_done(row, "u" if digits >> place & 1 else "l")
    return row


def is_folded(order):
    """Tell whether deeds lead the core of an order to the turned row of its size."""
    return word_to(core(order)) is not None
