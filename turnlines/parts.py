"""Parts of a line that get shorter again and again, until each is a single letter.

A part is a tuple: its first cell, its upper row, its lower row, and the lists of the lengths and the columns of all
letters. It has cells that lie side by side, and all rounds with one of its cells have their least one there. Its own
exchange leads a cell to the first one of the part that the exchange of the whole line, done again and again, leads it
to; the column of the cell's letter sums to how many times that is.
"""

from turnlines.contests import columns_behind, contest, lengths_behind, most_wins, named_anew, rows_behind
from turnlines.lines import moved, stretch_at
from turnlines.orders import first_fall


def whole_part(order, lengths, columns):
    """Return the part that is the whole line."""
    return 0, list(range(len(order))), order, lengths, columns


def end_of_part(part):
    """Return the cell directly behind a part."""
    start, upper, lower, lengths, columns = part
    return start + sum(lengths[letter] for letter in upper)


def is_single(part):
    """Tell whether a part is a single letter: then each of its cells is led to itself."""
    return len(part[1]) == 1


def holds(part, cell):
    """Tell whether a cell lies in a part."""
    return part[0] <= cell < end_of_part(part)


def column_of(part):
    """Return the column of the letter of a single part."""
    start, upper, lower, lengths, columns = part
    return columns[upper[0]]


def contest_in(part):
    """Return the deed that a part takes, the letter that wins, the letters that lose, and the sum of their lengths."""
    start, upper, lower, lengths, columns = part
    # Of equally long letters the upper one wins, and is gone behind the deed.
    deed = "u" if lengths[upper[-1]] >= lengths[lower[-1]] else "l"
    winner, losers = contest(upper, lower, deed)
    return deed, winner, losers, sum(lengths[letter] for letter in losers)


def fallen_apart(part):
    """Return the list of the parts that a part falls apart into, in the order of their cells."""
    start, upper, lower, lengths, columns = part
    found = []
    while upper:
        many = first_fall(named_anew(upper, lower)) or len(upper)
        found.append((start, upper[:many], lower[:many], lengths, columns))
        start = end_of_part(found[-1])
        upper, lower = upper[many:], lower[many:]
    return found


def shortened(part):
    """Return the list of the parts that are left of a part behind as many deeds as one letter can win."""
    start, upper, lower, lengths, columns = part
    deed, winner, losers, width = contest_in(part)
    times = most_wins(lengths[winner], [lengths[letter] for letter in losers])
    above, below = rows_behind(upper, lower, deed, times)
    shorter = lengths_behind(lengths, winner, losers, times)
    longer = columns_behind(columns, winner, losers, times)
    if shorter[winner] > 0:
        return [(start, above, below, shorter, longer)]
    left_above = [letter for letter in above if letter != winner]
    left_below = [letter for letter in below if letter != winner]
    return fallen_apart((start, left_above, left_below, shorter, longer))


def single_parts(order, lengths, columns):
    """Return the list of the parts that are left in the end, in the order of their cells."""
    left, found = [whole_part(order, lengths, columns)], []
    while left:
        part = left.pop()
        if is_single(part):
            found.append(part)
        else:
            left.extend(shortened(part)[::-1])
    return found


def left_for(part, end, cell, turns):
    """Return a cell of what is left of a part, and how many turns lead from it to where they lead from a cell."""
    if cell < end:
        return cell, turns
    start, upper, lower, lengths, columns = part
    deed, winner, losers, width = contest_in(part)
    # Each step goes by the width to the left: along the part's exchange for "u", against it for "l".
    steps = (cell - end) // width + 1
    time = steps * sum(columns[winner])
    return cell - steps * width, turns - time if deed == "u" else turns + time


def way_down(order, lengths, cell):
    """Return the list of ever shorter parts for a cell, the first cell of its round, and how many turns lead to it."""
    parts = [whole_part(order, lengths, [[1] for _ in order])]
    at, turns = cell, 0
    while not is_single(parts[-1]):
        behind = shortened(parts[-1])
        at, turns = left_for(parts[-1], end_of_part(behind[-1]), at, turns)
        parts.append([part for part in behind if holds(part, at)][0])
    return parts, at, turns


def got_back(part, cell, turns):
    """Return a cell of a part, and how many turns lead from it to where they lead from a cell of what is left of it.

    Both times, the turns are fewer than the time of the letter on which the cell lies.
    """
    start, upper, lower, lengths, columns = part
    deed, winner, losers, width = contest_in(part)
    letter, first = stretch_at(upper, lengths, start, cell)
    time = sum(columns[winner])
    if deed == "u" and turns >= sum(columns[letter]):
        # A loser's cell is led into the winner, and there to the left by the width again and again.
        left = turns - sum(columns[letter])
        return moved(upper, lower, lengths, start, cell) - left // time * width, left % time
    if deed == "l" and letter == winner:
        # What is now a loser's cell is led through the winner, to the right, until it comes to where the loser was.
        steps = min(turns // time, (first + lengths[winner] - cell + width - 1) // width)
        return cell + steps * width, turns - steps * time
    return cell, turns
