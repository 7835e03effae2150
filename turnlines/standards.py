"""Standard orders: their insides, words that lead to them, and words of four runs."""

from math import factorial

from turnlines.checks import need_number
from turnlines.deeds import is_word, led
from turnlines.errors import InvalidOrder, InvalidRow
from turnlines.orders import MOST_LETTERS, is_order, is_row, need_order


def is_standard(value):
    """Tell whether a value is a standard order of at most 40 letters."""
    return is_order(value) and value[0] == len(value) - 1 and value[-1] == 0


def need_standard(order):
    """Refuse what is not a standard order."""
    if not is_standard(order):
        raise InvalidOrder(order)


def how_many_standard(size):
    """Return how many standard orders of a size there are."""
    need_number(size, 2, MOST_LETTERS)
    return factorial(size - 2)


def standard_with(inside):
    """Return the standard order with an inside."""
    if not is_row(inside, 0, MOST_LETTERS - 2):
        raise InvalidRow(inside)
    return [len(inside) + 1] + [letter + 1 for letter in inside] + [0]


def inside_of(order):
    """Return what stands between the first and the last letter of a standard order, named anew."""
    need_standard(order)
    return [letter - 1 for letter in order[1:-1]]


def ups_to(order, letter):
    """Return the least word of deeds "u" by which a letter behind the greatest one becomes the last one below."""
    return "u" * (len(order) - 1 - order.index(letter))


def lows_to(order, letter):
    """Return the least word of deeds "l" by which a letter behind the last one below becomes the last one above."""
    return "l" * (len(order) - 1 - letter)


def word_to_standard(order):
    """Return a word of at most (n - 1) * (n - 2) deeds that leads an order to a standard one."""
    need_order(order)
    word, row = "", order
    while not is_standard(row):
        least = min(row[row.index(len(row) - 1) + 1:])
        ups = ups_to(row, least)
        row = led(row, ups)
        # Ahead of this letter stand, below, lesser ones than the least only, so that the next least one is less.
        first = [letter for letter in row if letter > least][0]
        lows = lows_to(row, first)
        row = led(row, lows)
        word = word + ups + lows
    return word


def is_word_to_standard(order, value):
    """Tell whether a value is a word that leads an order to a standard one."""
    need_order(order)
    return is_word(value) and is_standard(led(order, value))


def four_runs(order, ups, lows):
    """Return the word of so many deeds "u" and "l" and the fewest of each that make a standard order standard again."""
    need_standard(order)
    need_number(ups, 0, len(order) - 2)
    need_number(lows, 0, len(order) - 2)
    begun = "u" * ups + "l" * lows
    row = led(order, begun)
    if row.index(0) < row.index(len(row) - 1):
        return None
    more_ups = ups_to(row, 0)
    row = led(row, more_ups)
    return begun + more_ups + lows_to(row, row[0])
