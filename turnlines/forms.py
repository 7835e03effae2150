"""Sets of an order's letters, and their form."""

from itertools import combinations, product

from turnlines.checks import is_whole, need_number
from turnlines.corners import corners
from turnlines.errors import InvalidSet
from turnlines.orders import exchanged, need_order


def is_set_below(size, value):
    """Tell whether a value is a list, in order, of different letters below a size."""
    if not isinstance(value, list) or not all(is_whole(letter) and 0 <= letter < size for letter in value):
        return False
    return all(letter < behind for letter, behind in zip(value, value[1:]))


def need_set(order, letters):
    """Refuse what is not a set of an order."""
    if not is_set_below(len(order), letters):
        raise InvalidSet(letters)


def is_set(order, value):
    """Tell whether a value is a set of an order."""
    need_order(order)
    return is_set_below(len(order), value)


def crossings(order):
    """Return the list of the tuples of two letters that cross."""
    places = exchanged(order)
    return [(x, y) for x, y in combinations(range(len(order)), 2) if places[y] < places[x]]


def form(order, letters):
    """Return the form of a set."""
    places = exchanged(order)
    need_set(order, letters)
    crossed = [x for x, y in combinations(letters, 2) if places[y] < places[x]]
    return (len(letters) + len(crossed)) % 2


def meets(order, one, other):
    """Return the rest, by 2, of how many pairs of a letter of each of two sets cross."""
    places = exchanged(order)
    need_set(order, one)
    need_set(order, other)
    crossed = [x for x, y in product(one, other) if (x - y) * (places[x] - places[y]) < 0]
    return len(crossed) % 2


def is_silent(order, letters):
    """Tell whether a set meets every set 0 times, by 2."""
    need_order(order)
    # What meets no single letter meets no set.
    return all(meets(order, letters, [letter]) == 0 for letter in range(len(order)))


def silent_sets(order):
    """Return the list of the silent sets of which all come, none with the first letter of another."""
    left = [corner_set(order, number) for number in range(1, len(corners(order)))]
    found = []
    while left:
        least = min(left)
        left.remove(least)
        left = [without(letters, least) for letters in left]
        found = [without(letters, least) for letters in found]
        found.append(least)
    return found


def without(letters, least):
    """Return a set, or, if it has the first letter of another one, the letters in just one of the two."""
    return sorted(set(letters) ^ set(least)) if least[0] in letters else letters


def corner_set(order, number):
    """Return the set of the letters that have just one of their two ends in a corner."""
    rings = corners(order)
    need_number(number, 0, len(rings) - 1)
    ring = rings[number]
    ends = list(range(1, len(order))) + [order[-1] + 1]
    return [letter for letter, end in enumerate(ends) if (letter in ring) != (end in ring)]
