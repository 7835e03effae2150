"""Classes: the lists of all orders that deeds lead to one another."""

from itertools import permutations

from turnlines.checks import need_count, need_number
from turnlines.errors import TooMany
from turnlines.joining import signs
from turnlines.orders import first_fall, need_order
from turnlines.ways import words_from

MOST_IN_CLASS = 500
MOST_CLASSED = 8


def rows_joined(order):
    """Return the list of all orders, as tuples, that an order is joined to, not in order."""
    need_order(order)
    # Each deed comes round, so what words lead to is led back.
    return list(words_from(order))


def class_size(order):
    """Return how many orders the class of an order has."""
    return len(rows_joined(order))


def class_orders(order):
    """Return the list of the orders of a class, in order."""
    rows = rows_joined(order)
    if len(rows) > MOST_IN_CLASS:
        raise TooMany(len(rows))
    return [list(row) for row in sorted(rows)]


def class_number(order):
    """Return the place of an order in its class."""
    return len([row for row in rows_joined(order) if row < tuple(order)])


def class_numbered(order, number):
    """Return the order at a place of the class of an order."""
    need_order(order)
    # What is no count is refused without a look at the class.
    need_count(number)
    rows = rows_joined(order)
    need_number(number, 0, len(rows) - 1)
    return list(sorted(rows)[number])


def next_in_class(order):
    """Return the order behind an order in its class, None behind the last one."""
    behind = [row for row in rows_joined(order) if row > tuple(order)]
    return list(min(behind)) if behind else None


def classes(size):
    """Return the list of the tuples of the first order of each class of a size and of how many orders it has."""
    need_number(size, 2, MOST_CLASSED)
    seen, found = {}, []
    for row in permutations(range(size)):
        if first_fall(row) is None and row not in seen:
            rows = rows_joined(list(row))
            for other in rows:
                seen[other] = True
            found.append((list(row), len(rows)))
    return found


def class_signs(size):
    """Return the list of the signs that orders of a size have, each once, in order."""
    # The orders of one class have the same signs, those of two classes unlike ones.
    return sorted([signs(order) for order, many in classes(size)])
