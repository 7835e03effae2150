"""Counts of the sets of each form, their numbers, and what a deed makes of sets."""

from turnlines.checks import need_number
from turnlines.deeds import names_ahead, need_deed
from turnlines.forms import crossings, form, need_set
from turnlines.orders import need_order


def first_behind(letters):
    """Return the least letter that may stand behind all letters of a set."""
    return letters[-1] + 1 if letters else 0


def crossing_masks(order):
    """Return for each letter the number whose binary digits tell the letters that it crosses."""
    masks = [0] * len(order)
    for x, y in crossings(order):
        masks[x] |= 1 << y
        masks[y] |= 1 << x
    return masks


def sum_of_signs(free, masks, bits):
    """Return how many sets of free letters have the form 0, less how many have the form 1.

    The masks tell which letters cross, the bits the forms of single letters; all three lists are used up.
    """
    total = 1
    while free:
        one = free.pop()
        crossed = [letter for letter in free if masks[one] >> letter & 1]
        if not crossed:
            # Each set of the rest has this form without the letter, and with it this one or the other one.
            if bits[one]:
                return 0
            total *= 2
            continue
        other = crossed[0]
        free.remove(other)
        total *= -2 if bits[one] and bits[other] else 2
        # Each further letter stands, from here on, for a set with it that meets neither of the two.
        for letter in free:
            by_one, by_other = masks[one] >> letter & 1, masks[other] >> letter & 1
            bits[letter] ^= (by_one & bits[other]) ^ (by_other & bits[one]) ^ (by_one & by_other)
            masks[letter] ^= (by_one * masks[other]) ^ (by_other * masks[one])
    return total


def sum_beginning(order, letters):
    """Return how many sets that begin with some letters have the form 0, less how many have the form 1."""
    masks = crossing_masks(order)
    bits = [(1 + len([x for x in letters if mask >> x & 1])) % 2 for mask in masks]
    total = sum_of_signs(list(range(first_behind(letters), len(order))), masks, bits)
    return -total if form(order, letters) == 1 else total


def count_beginning(order, letters, bit):
    """Return how many sets that begin with some letters have a form."""
    total = sum_beginning(order, letters)
    many = 1 << (len(order) - first_behind(letters))
    return (many - total) // 2 if bit == 1 else (many + total) // 2


def how_many_sets(order, bit):
    """Return how many sets have a form."""
    need_order(order)
    need_number(bit, 0, 1)
    return count_beginning(order, [], bit)


def sign_sum(order):
    """Return how many sets have the form 0, less how many have the form 1."""
    need_order(order)
    return sum_beginning(order, [])


def set_number(order, letters):
    """Return how many sets with the same form stand ahead of a set."""
    bit = form(order, letters)
    many = 0
    for at, letter in enumerate(letters):
        begun = letters[:at]
        many += 1 if form(order, begun) == bit else 0
        for less in range(first_behind(begun), letter):
            many += count_beginning(order, begun + [less], bit)
    return many


def set_numbered(order, bit, number):
    """Return the set with a form ahead of which so many sets with this form stand."""
    # To count the sets is to look at the order and the form first.
    need_number(number, 0, how_many_sets(order, bit) - 1)
    letters, ahead = [], number
    while ahead > 0 or form(order, letters) != bit:
        # The letters alone stand ahead of all sets that begin with them.
        ahead -= 1 if form(order, letters) == bit else 0
        letter = first_behind(letters)
        many = count_beginning(order, letters + [letter], bit)
        while many <= ahead:
            ahead -= many
            letter += 1
            many = count_beginning(order, letters + [letter], bit)
        letters.append(letter)
    return letters


def set_ahead(order, deed, letters):
    """Return the set ahead of a deed that stands for a set of the order behind it."""
    need_order(order)
    need_deed(deed)
    need_set(order, letters)
    names = names_ahead(order, deed)
    ahead = [names[letter] for letter in letters]
    below, above = order[-1], len(order) - 1
    moved, other = (below, above) if deed == "u" else (above, below)
    # Behind the deed, the moved letter crosses those others that just one of the two crosses ahead of it.
    return sorted(set(ahead) ^ set([other])) if moved in ahead else sorted(ahead)
