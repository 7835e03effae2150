"""Deeds that lengths take, one behind the other as in Euclid's division, told as runs of like deeds."""

from turnlines.checks import is_whole
from turnlines.contests import contest, lengths_behind, most_wins, named_anew, rows_behind
from turnlines.deeds import DEEDS, deed_done, names_ahead
from turnlines.errors import InvalidRun
from turnlines.lines import need_lengths
from turnlines.orders import need_order


def is_run(value):
    """Tell whether a value is a tuple of a deed and of how many times it is done."""
    if not isinstance(value, tuple) or len(value) != 2:
        return False
    deed, times = value
    return deed in DEEDS and is_whole(times) and times >= 1


def need_runs(runs):
    """Refuse what are not runs."""
    if not is_runs(runs):
        raise InvalidRun(runs)


def wins_in(upper, lower, lengths, deed):
    """Return how many times, one behind the other, lengths take a deed."""
    winner, losers = contest(upper, lower, deed)
    # The winner keeps a length of at least 1.
    return most_wins(lengths[winner] - 1, [lengths[letter] for letter in losers])


def run_taken(upper, lower, lengths, run):
    """Return both rows and the lengths behind a run that is taken, all letters keeping their names."""
    deed, times = run
    winner, losers = contest(upper, lower, deed)
    above, below = rows_behind(upper, lower, deed, times)
    return above, below, lengths_behind(lengths, winner, losers, times)


def taken_to_the_end(order, lengths):
    """Return the runs that lengths take, and both rows and the lengths that stand, all letters keeping their names."""
    need_order(order)
    need_lengths(order, lengths)
    runs, upper, lower, left = [], list(range(len(order))), order, lengths
    while left[upper[-1]] != left[lower[-1]]:
        deed = "u" if left[upper[-1]] > left[lower[-1]] else "l"
        runs.append((deed, wins_in(upper, lower, left, deed)))
        upper, lower, left = run_taken(upper, lower, left, runs[-1])
    return runs, upper, lower, left


def taken(order, lengths):
    """Return the tuple of the deed that lengths take, the order and the lengths behind it, None if they stand."""
    need_order(order)
    need_lengths(order, lengths)
    above, below = len(order) - 1, order[-1]
    if lengths[above] == lengths[below]:
        return None
    deed, winner, loser = ("u", above, below) if lengths[above] > lengths[below] else ("l", below, above)
    left = list(lengths)
    left[winner] -= lengths[loser]
    return deed, deed_done(order, deed), [left[name] for name in names_ahead(order, deed)]


def is_runs(value):
    """Tell whether a value is a list of runs, unlike deeds side by side."""
    if not isinstance(value, list) or not all(is_run(item) for item in value):
        return False
    return all(run[0] != behind[0] for run, behind in zip(value, value[1:]))


def led_by_runs(order, runs):
    """Return the order behind all deeds of runs."""
    need_order(order)
    need_runs(runs)
    upper, lower = list(range(len(order))), order
    for deed, times in runs:
        upper, lower = rows_behind(upper, lower, deed, times)
    return named_anew(upper, lower)


def runs_of(order, lengths):
    """Return the runs that lengths take until they stand."""
    runs, upper, lower, left = taken_to_the_end(order, lengths)
    return runs


def end_of(order, lengths):
    """Return the tuple of the order and the lengths that stand behind all deeds that lengths take."""
    runs, upper, lower, left = taken_to_the_end(order, lengths)
    return named_anew(upper, lower), [left[letter] for letter in upper]


def takes_first(order, lengths, runs):
    """Tell whether lengths take all deeds of runs, one behind the other, whatever comes behind them."""
    need_order(order)
    need_lengths(order, lengths)
    need_runs(runs)
    upper, lower, left = list(range(len(order))), order, lengths
    for deed, times in runs:
        if times > wins_in(upper, lower, left, deed):
            return False
        upper, lower, left = run_taken(upper, lower, left, (deed, times))
    return True
