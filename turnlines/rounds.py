"""Rounds: the cells that are led to one another, their times, and their least cells."""

from turnlines.exchanges import need_cell_of
from turnlines.lines import need_cell, need_lengths
from turnlines.orders import need_order
from turnlines.parts import column_of, end_of_part, single_parts, way_down


def round_time(order, lengths, cell):
    """Return the least count of at least 1 by which a cell is led to itself."""
    need_cell_of(order, lengths, cell)
    parts, first, turns = way_down(order, lengths, cell)
    return sum(column_of(parts[-1]))


def first_cell(order, lengths, cell):
    """Return the least cell of a cell's round."""
    need_cell_of(order, lengths, cell)
    parts, first, turns = way_down(order, lengths, cell)
    return first


def turns_to(order, lengths, one, other):
    """Return the least count by which one cell is led to another one, None if they lie on unlike rounds."""
    need_cell_of(order, lengths, one)
    need_cell(lengths, other)
    parts, first, turns = way_down(order, lengths, one)
    parts, other_first, other_turns = way_down(order, lengths, other)
    return (other_turns - turns) % sum(column_of(parts[-1])) if first == other_first else None


def rounds(order, lengths):
    """Return the list of the tuples of each time that rounds have, and of how many rounds have it, in order."""
    counts = {}
    for first, many, time in first_cells(order, lengths):
        counts[time] = counts.get(time, 0) + many
    return sorted(counts.items())


def are_one_round(order, lengths):
    """Tell whether all cells lie on one round."""
    return rounds(order, lengths) == [(sum(lengths), 1)]


def first_cells(order, lengths):
    """Return the list of the tuples of a first cell, of how many lie side by side, and of the time of their rounds."""
    need_order(order)
    need_lengths(order, lengths)
    told = []
    for part in single_parts(order, lengths, [[1] for _ in order]):
        start, many, time = part[0], end_of_part(part) - part[0], sum(column_of(part))
        if told and told[-1][2] == time and told[-1][0] + told[-1][1] == start:
            before = told.pop()
            start, many = before[0], before[1] + many
        told.append((start, many, time))
    return told
