"""The deeds done slowly on two written rows, and orders to try them on."""

import random
from itertools import permutations


def falls_apart(row):
    """Tell whether some first letters are just the least ones."""
    return any(set(row[:k]) == set(range(k)) for k in range(1, len(row)))


def all_orders(size):
    """List all orders of a size by trying all rows."""
    return [list(row) for row in permutations(range(size)) if not falls_apart(row)]


def some_orders(sizes, many):
    """List some orders of each size, the same ones at each call."""
    source = random.Random(2026)
    found = []
    for size in sizes:
        wanted = len(found) + many
        while len(found) < wanted:
            row = list(range(size))
            source.shuffle(row)
            if not falls_apart(row):
                found.append(row)
    return found


def some_word(length, seed):
    """Make a word of a length, the same one at each call."""
    source = random.Random(seed)
    return "".join(source.choice("ul") for _ in range(length))


def named_anew(upper, lower):
    """Give the letters of two rows the names 0, 1, .. along the upper one; tell the lower one."""
    names = {letter: name for name, letter in enumerate(upper)}
    return [names[letter] for letter in lower]


def deed_by_rows(order, deed):
    """Do a deed as the document words it."""
    upper, lower = list(range(len(order))), list(order)
    if deed == "u":
        moved = lower.pop()
        lower.insert(lower.index(upper[-1]) + 1, moved)
    else:
        moved = upper.pop()
        upper.insert(upper.index(lower[-1]) + 1, moved)
    return named_anew(upper, lower)


def mirrored_by_rows(order):
    """Read both rows from behind."""
    return named_anew(list(range(len(order)))[::-1], order[::-1])


def exchanged_by_rows(order):
    """Write the lower row above and the upper one below."""
    return named_anew(order, list(range(len(order))))
