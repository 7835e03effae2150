"""Grown sets: what comes of single letters by sets that meet once."""

from turnlines.orders import need_order
from turnlines.setcounts import crossing_masks


def grown_masks(order):
    """Return the list of the numbers whose binary digits tell the letters of the grown sets."""
    need_order(order)
    crossed = crossing_masks(order)
    # For each set, the letters that meet it once, by 2.
    met = {1 << letter: mask for letter, mask in enumerate(crossed)}
    found, at = list(met), 0
    while at < len(found):
        held = found[at]
        at += 1
        for letter, mask in enumerate(crossed):
            other = held ^ (1 << letter)
            if met[held] >> letter & 1 and other not in met:
                met[other] = met[held] ^ mask
                found.append(other)
    return found


def grown_sets(order):
    """Return the list of the grown sets of an order, in order."""
    masks = grown_masks(order)
    return sorted([[letter for letter in range(len(order)) if mask >> letter & 1] for mask in masks])


def how_many_grown(order):
    """Return how many grown sets an order has."""
    return len(grown_masks(order))
