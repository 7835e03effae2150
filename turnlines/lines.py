"""Lines: lengths of letters, and where cells lie in rows of letters."""

from turnlines.checks import is_whole
from turnlines.errors import InvalidCell, InvalidLengths


def need_lengths(order, lengths):
    """Refuse what are not lengths of an order's letters."""
    if not isinstance(lengths, list) or len(lengths) != len(order):
        raise InvalidLengths(lengths)
    if not all(is_whole(length) and length >= 1 for length in lengths):
        raise InvalidLengths(lengths)


def need_cell(lengths, cell):
    """Refuse what is not a cell of the line."""
    if not is_whole(cell) or not 0 <= cell < sum(lengths):
        raise InvalidCell(cell)


def stretch_at(row, lengths, start, cell):
    """Return the letter on which a cell lies, the letters of a row lying from a start on, and its own first cell."""
    first = start
    for letter in row:
        if cell < first + lengths[letter]:
            return letter, first
        first += lengths[letter]
    return None


def first_of(row, lengths, start, letter):
    """Return the first cell of a letter, the letters of a row lying from a start on."""
    return start + sum(lengths[ahead] for ahead in row[:row.index(letter)])


def moved(row, other, lengths, start, cell):
    """Return the cell in the other row with the same number of the same letter as a cell in a row."""
    letter, first = stretch_at(row, lengths, start, cell)
    return cell - first + first_of(other, lengths, start, letter)
