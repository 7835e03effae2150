"""Kinds of rounds: how many cells of a round lie on each letter."""

from turnlines.contests import unit_columns
from turnlines.exchanges import need_cell_of
from turnlines.lines import need_lengths
from turnlines.orders import need_order
from turnlines.parts import column_of, end_of_part, holds, single_parts, way_down


def round_counts(order, lengths, cell):
    """Return the list that tells for each letter how many cells of a cell's round lie on it."""
    need_cell_of(order, lengths, cell)
    parts, first, turns = way_down(order, lengths, cell)
    single = single_parts(order, lengths, unit_columns(len(order)))
    return [column_of(part) for part in single if holds(part, first)][0]


def kinds(order, lengths):
    """Return the list of the tuples of each such list that rounds have, and of how many rounds have it, in order."""
    need_order(order)
    need_lengths(order, lengths)
    single = single_parts(order, lengths, unit_columns(len(order)))
    # Deeds keep columns independent, so no two parts have the same one.
    return sorted([(column_of(part), end_of_part(part) - part[0]) for part in single])
