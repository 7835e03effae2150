"""Exchanges with lengths: where each cell of a line is led to, once or many times."""

from turnlines.checks import is_whole
from turnlines.errors import InvalidNumber
from turnlines.lines import moved, need_cell, need_lengths, stretch_at
from turnlines.orders import need_order
from turnlines.parts import column_of, got_back, way_down


def need_cell_of(order, lengths, cell):
    """Refuse what are not an order, lengths of its letters and a cell of its line."""
    need_order(order)
    need_lengths(order, lengths)
    need_cell(lengths, cell)


def led_cell(order, lengths, cell):
    """Return to which cell a cell is led."""
    need_cell_of(order, lengths, cell)
    return moved(list(range(len(order))), order, lengths, 0, cell)


def cell_ahead(order, lengths, cell):
    """Return the cell that is led to a cell."""
    need_cell_of(order, lengths, cell)
    return moved(order, list(range(len(order))), lengths, 0, cell)


def letter_of(order, lengths, cell):
    """Return the letter on which a cell lies."""
    need_cell_of(order, lengths, cell)
    letter, _ = stretch_at(list(range(len(order))), lengths, 0, cell)
    return letter


def led_times(order, lengths, cell, count):
    """Return to which cell a cell is led if the exchange is done so many times, undone for a count below 0."""
    need_cell_of(order, lengths, cell)
    if not is_whole(count):
        raise InvalidNumber(count)
    parts, at, turns = way_down(order, lengths, cell)
    left = (turns + count) % sum(column_of(parts[-1]))
    for part in parts[-2::-1]:
        at, left = got_back(part, at, left)
    return at
