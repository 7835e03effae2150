"""Orders: rows of letters that do not fall apart."""

from itertools import permutations
from math import factorial

from turnlines.checks import is_whole, need_number
from turnlines.errors import InvalidOrder, InvalidRow, TooMany

MOST_LETTERS = 40
MOST_COUNTED = 100
MOST_LISTED = 5000


def is_row(value, least, most):
    """Tell whether a value is a row of letters of a size within two bounds."""
    if not isinstance(value, list) or not least <= len(value) <= most:
        return False
    return all(is_whole(letter) for letter in value) and sorted(value) == list(range(len(value)))


def first_fall(row):
    """Return the least place at which a row of letters falls apart, None if there is none."""
    greatest = -1
    for k in range(1, len(row)):
        greatest = max(greatest, row[k - 1])
        # No letter comes twice, so the greatest one alone tells whether k letters are those below k.
        if greatest == k - 1:
            return k
    return None


def mirror_of(order):
    """Return the order of both rows read from behind, without a check."""
    greatest = len(order) - 1
    return [greatest - letter for letter in order[::-1]]


def need_order(order):
    """Refuse what is not an order of a size that may be handed in."""
    if not is_order(order):
        raise InvalidOrder(order)


def is_order(value):
    """Tell whether a value is an order of at most 40 letters."""
    return is_row(value, 2, MOST_LETTERS) and first_fall(value) is None


def falls_at(row):
    """Return the least k such that the first k letters are those below k, None for an order."""
    if not is_row(row, 2, MOST_LETTERS):
        raise InvalidRow(row)
    return first_fall(row)


def how_many_orders(size):
    """Return how many orders of a size there are."""
    need_number(size, 2, MOST_COUNTED)
    counts = [1]
    for many in range(2, size + 1):
        # A row that first falls apart at k is one of counts[k - 1] rows ahead of any row of the rest.
        falling = sum(counts[k - 1] * factorial(many - k) for k in range(1, many))
        counts.append(factorial(many) - falling)
    return counts[-1]


def orders_of(size):
    """Return the list of all orders of a size, in order."""
    many = how_many_orders(size)
    if many > MOST_LISTED:
        raise TooMany(many)
    return [list(row) for row in permutations(range(size)) if first_fall(row) is None]


def turned_row(size):
    """Return the order whose letters stand from the greatest to the least."""
    need_number(size, 2, MOST_LETTERS)
    return list(range(size - 1, -1, -1))


def exchanged(order):
    """Return the order with the upper and the lower row exchanged."""
    need_order(order)
    places = [0] * len(order)
    for place, letter in enumerate(order):
        places[letter] = place
    return places


def mirrored(order):
    """Return the order of both rows read from behind."""
    need_order(order)
    return mirror_of(order)
