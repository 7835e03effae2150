"""Contests: like deeds, one behind the other, at two rows whose letters keep their names.

By such deeds one letter wins again and again, and the letters behind it in the other row lose to it by turns.
"""


def named_anew(upper, lower):
    """Return the lower row with the names that the letters get along the upper one."""
    names = {letter: name for name, letter in enumerate(upper)}
    return [names[letter] for letter in lower]


def contest(upper, lower, deed):
    """Return the letter that wins by a deed, and those that lose to it by turns, the first one first."""
    winner, row = (upper[-1], lower) if deed == "u" else (lower[-1], upper)
    return winner, row[row.index(winner) + 1:][::-1]


def turned_behind(row, letter, times):
    """Return a row whose last letter has been put directly behind another letter so many times."""
    behind = row.index(letter) + 1
    cut = len(row) - times % (len(row) - behind)
    return row[:behind] + row[cut:] + row[behind:cut]


def rows_behind(upper, lower, deed, times):
    """Return both rows behind so many like deeds."""
    if deed == "u":
        return upper, turned_behind(lower, upper[-1], times)
    return turned_behind(upper, lower[-1], times), lower


def most_wins(length, losing):
    """Return how often a length can get shorter by other lengths, one by one and again and again, down to 0 at most."""
    rings, left = divmod(length, sum(losing))
    more = 0
    while left >= losing[more]:
        left -= losing[more]
        more += 1
    return rings * len(losing) + more


def losses(losers, times):
    """Return the tuples of each letter that loses by so many deeds, and of how often it does."""
    rings, more = divmod(times, len(losers))
    often = [(letter, rings + 1) for letter in losers[:more]]
    return often + [(letter, rings) for letter in losers[more:]] if rings else often


def lengths_behind(lengths, winner, losers, times):
    """Return the lengths behind so many deeds."""
    lost = sum(many * lengths[letter] for letter, many in losses(losers, times))
    return [length - lost if letter == winner else length for letter, length in enumerate(lengths)]


def unit_columns(many):
    """Return the columns of so many letters ahead of all deeds: each letter counts once for itself."""
    return [[1 if letter == other else 0 for other in range(many)] for letter in range(many)]


def columns_behind(columns, winner, losers, times):
    """Return the list of the letters' columns behind so many deeds: each loss adds the winner's one to a loser's."""
    told = list(columns)
    for letter, many in losses(losers, times):
        told[letter] = [own + many * added for own, added in zip(columns[letter], columns[winner])]
    return told
