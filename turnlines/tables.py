"""Tables of whole numbers that go with runs: how the lengths behind count in those ahead."""

from turnlines.checks import is_count
from turnlines.contests import columns_behind, contest, rows_behind, unit_columns
from turnlines.errors import InvalidRun, InvalidTable
from turnlines.forms import crossings
from turnlines.lines import need_lengths
from turnlines.orders import need_order
from turnlines.runs import led_by_runs, need_runs, runs_of


def need_table(order, table):
    """Refuse what is not a list of as many lists as an order has letters, each of as many counts."""
    if not isinstance(table, list) or len(table) != len(order):
        raise InvalidTable(table)
    for row in table:
        if not isinstance(row, list) or len(row) != len(order) or not all(is_count(item) for item in row):
            raise InvalidTable(table)


def need_coming_round(order, runs):
    """Refuse runs that are empty or lead an order to another one."""
    behind = led_by_runs(order, runs)
    if not runs or behind != order:
        raise InvalidRun(runs)


def columns_of_runs(order, runs):
    """Return the columns of the table of runs, those of the letters behind them, in their order there."""
    need_order(order)
    need_runs(runs)
    upper, lower, columns = list(range(len(order))), order, unit_columns(len(order))
    for deed, times in runs:
        winner, losers = contest(upper, lower, deed)
        columns = columns_behind(columns, winner, losers, times)
        upper, lower = rows_behind(upper, lower, deed, times)
    return [columns[letter] for letter in upper]


def runs_table(order, runs):
    """Return the table of runs: for each letter ahead, how often each letter behind counts in its length."""
    columns = columns_of_runs(order, runs)
    return [[column[letter] for column in columns] for letter in range(len(order))]


def lengths_ahead(order, runs, lengths):
    """Return the lengths that take runs first and have the told lengths behind them."""
    need_order(order)
    need_runs(runs)
    need_lengths(order, lengths)
    return [sum(item * length for item, length in zip(row, lengths)) for row in runs_table(order, runs)]


def times_of(order, runs):
    """Return for each letter of the order behind runs the sum of its numbers in the table."""
    return [sum(column) for column in columns_of_runs(order, runs)]


def signed_crossings(order):
    """Return the table that tells which letters cross: 1 where the first one is the lesser one, -1 where it is not."""
    need_order(order)
    told = [[0] * len(order) for _ in order]
    for x, y in crossings(order):
        told[x][y], told[y][x] = 1, -1
    return told


def never_winning(order, runs):
    """Return the list of the letters that never win if runs that come round are done again and again."""
    need_coming_round(order, runs)
    upper, lower, winning = list(range(len(order))), order, [False] * len(order)
    # As many rounds as letters lead each letter through all names that it ever bears.
    for deed, times in runs * len(order):
        winner, losers = contest(upper, lower, deed)
        winning[winner] = True
        upper, lower = rows_behind(upper, lower, deed, times)
    return [letter for letter, wins in enumerate(winning) if not wins]


def joined_masks(mask, masks):
    """Return the number with all binary digits of those masks whose places are digits of a mask."""
    told = 0
    for place, further in enumerate(masks):
        told |= further if mask >> place & 1 else 0
    return told


def positive_power(order, runs):
    """Return the least power of the table of runs that come round without an item 0, None if there is none."""
    need_coming_round(order, runs)
    many = len(order)
    masks = [sum(1 << place for place, item in enumerate(row) if item > 0) for row in runs_table(order, runs)]
    power = masks
    for count in range(1, many * many - 2 * many + 3):
        if all(mask == (1 << many) - 1 for mask in power):
            return count
        power = [joined_masks(mask, masks) for mask in power]
    return None


def runs_from(order, table):
    """Return the only runs that have a table from an order, None if there are none."""
    need_order(order)
    need_table(order, table)
    lengths = [sum(row) for row in table]
    if 0 in lengths:
        return None
    # If there are such runs, these lengths take them first, and are all 1 behind them, so that they stand.
    runs = runs_of(order, lengths)
    return runs if runs_table(order, runs) == table else None
