"""Corners: rings of gaps that lead to one another, and orders with a letter more or less."""

from turnlines.checks import is_whole, need_number
from turnlines.errors import InvalidNumber, InvalidTable, TooMany
from turnlines.orders import MOST_LETTERS, is_order, need_order

MOST_SUM = 39


def gaps_led_to(order):
    """Return for each gap the one that it leads to."""
    told = [0] * len(order)
    for ahead, letter in zip(order, order[1:]):
        # Behind the upper row's last letter comes what stands behind the lower row's last one.
        told[letter] = ahead + 1 if ahead + 1 < len(order) else order[-1] + 1
    return told


def next_gap(order, gap):
    """Return the gap that a gap leads to."""
    need_order(order)
    need_number(gap, 0, len(order) - 1)
    return gaps_led_to(order)[gap]


def corners(order):
    """Return the list of all corners, each as the list of its gaps from the least one on."""
    need_order(order)
    told = gaps_led_to(order)
    seen = [False] * len(order)
    rings = []
    for start in range(len(order)):
        ring, gap = [], start
        while not seen[gap]:
            seen[gap] = True
            ring.append(gap)
            gap = told[gap]
        if ring:
            rings.append(ring)
    return rings


def sizes(order):
    """Return the list of the sizes of all corners, in order."""
    marked, *others = corners(order)
    return sorted([len(marked) - 1] + [len(ring) for ring in others])


def marked_size(order):
    """Return the size of the marked corner."""
    return len(corners(order)[0]) - 1


def genus(order):
    """Return half of what n + 1 less the number of corners is, n being the number of letters."""
    many = len(corners(order))
    return (len(order) + 1 - many) // 2


def letter_put(order, gap, place):
    """Return the order with one more letter, without a check."""
    row = [letter + 1 if letter >= gap else letter for letter in order]
    return row[:place] + [gap] + row[place:]


def with_letter(order, gap, place):
    """Return the order with one more letter, ahead of a letter above and ahead of a place below."""
    need_order(order)
    size = len(order)
    need_number(gap, 0, size)
    need_number(place, 0, size)
    if gap == place and gap in (0, size):
        raise InvalidNumber(place)
    if size == MOST_LETTERS:
        raise TooMany(size + 1)
    return letter_put(order, gap, place)


def struck(order, letter):
    """Return the order without a letter, None if what is left is no order."""
    need_order(order)
    need_number(letter, 0, len(order) - 1)
    left = [other - 1 if other > letter else other for other in order if other != letter]
    return left if is_order(left) else None


def need_sizes(value):
    """Refuse what is not a list, in order, of sizes that an order of at most 40 letters can have."""
    if not isinstance(value, list) or not value or not all(is_whole(size) and size >= 1 for size in value):
        raise InvalidTable(value)
    if value != sorted(value) or sum(value) > MOST_SUM:
        raise InvalidTable(value)


def widened(order, gap):
    """Return an order in which the corner of a gap has two gaps more, no other corner being changed."""
    # Two letters that cross, side by side in both rows, directly ahead of one letter.
    row = letter_put(order, gap, order.index(gap))
    return letter_put(row, gap + 1, row.index(gap))


def parted(order, gap, many):
    """Return an order with one more letter, by which the corner of a gap becomes two, one of them of so many gaps."""
    told, other = gaps_led_to(order), gap
    for _ in range(many - 1):
        other = told[other]
    return letter_put(order, gap, order.index(other))


def spread(order, gap, size, partner):
    """Return an order in which the corner of a gap, of the size 1, has another size.

    A partner that is not 0 is the size of a corner that comes of it, too. The size is odd, or both are even.
    """
    row = order
    for _ in range((size + partner - 1) // 2):
        row = widened(row, gap)
    return parted(row, gap, partner) if partner else row


def order_with(sizes, marked):
    """Return an order with a list of sizes and a marked size, None if there is none."""
    need_sizes(sizes)
    if not is_whole(marked) or marked < 1:
        raise InvalidNumber(marked)
    if marked not in sizes or len([size for size in sizes if size % 2 == 0]) % 2 == 1:
        return None
    others = list(sizes)
    others.remove(marked)
    odd = [size for size in others if size % 2 == 1]
    even = [size for size in others if size % 2 == 0]
    # Even sizes come about in twos only: a corner that is widened stays odd until it is parted.
    row = spread([1, 0], 0, marked, even.pop() if marked % 2 == 0 else 0)
    while odd:
        row = spread(parted(row, 0, 1), 1, odd.pop(), 0)
    while even:
        row = spread(parted(row, 0, 1), 1, even.pop(), even.pop())
    return row
