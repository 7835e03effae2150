"""Ways: words that lead from one order to another one, shortest ones, how many there are, and ways back."""

from turnlines.checks import need_count, need_number
from turnlines.deeds import deed_done, is_word, led, need_word, ring_size
from turnlines.joining import need_pair
from turnlines.orders import need_order


def words_from(order):
    """Return, for each order that words lead an order to, as a tuple, the first of the shortest words that do."""
    rows, at = [tuple(order)], 0
    words = {rows[0]: ""}
    while at < len(rows):
        row = rows[at]
        at += 1
        # Rows come in the order of their words, so that the first word found is also the first one in order.
        for deed in "lu":
            behind = tuple(deed_done(row, deed))
            if behind not in words:
                words[behind] = words[row] + deed
                rows.append(behind)
    return words


def steps_from(order):
    """Return the orders that words lead an order to, itself first, and the places of those behind each one's deeds."""
    rows = list(words_from(order))
    places = {row: place for place, row in enumerate(rows)}
    return rows, [[places[tuple(deed_done(row, deed))] for deed in "lu"] for row in rows]


def counts_of_words(one, other, length):
    """Return the steps from an order, and, for each length from 0 on, from how many words lead to another one there."""
    rows, steps = steps_from(one)
    counts = [[1 if row == tuple(other) else 0 for row in rows]]
    for _ in range(length):
        shorter = counts[-1]
        counts.append([shorter[low] + shorter[up] for low, up in steps])
    return steps, counts


def shortest_way(one, other):
    """Return the first of the shortest words that lead from one order to another one, None if there is none."""
    need_pair(one, other)
    return words_from(one).get(tuple(other))


def is_way(one, other, value):
    """Tell whether a value is a word that leads from one order to another one."""
    need_pair(one, other)
    return is_word(value) and led(one, value) == other


def way_back(order, word):
    """Return a word that leads back what a word leads an order to, with at most n - 2 signs for each of its signs."""
    need_order(order)
    need_word(word)
    row, back = order, ""
    for deed in word:
        # The rest of the deed's ring undoes it.
        back = deed * (ring_size(row, deed) - 1) + back
        row = deed_done(row, deed)
    return back


def comes_round(order, word):
    """Return how many times, at least once, a word has to be taken to lead an order to itself."""
    row, many = led(order, word), 1
    while row != order:
        row = led(row, word)
        many += 1
    return many


def how_many_words(one, other, length):
    """Return how many words of a length lead from one order to another one."""
    need_pair(one, other)
    need_count(length)
    _, counts = counts_of_words(one, other, length)
    return counts[length][0]


def word_numbered(one, other, length, number):
    """Return the word of a length from one order to another one ahead of which, in order, so many of them are."""
    need_pair(one, other)
    need_count(length)
    need_count(number)
    steps, counts = counts_of_words(one, other, length)
    need_number(number, 0, counts[length][0] - 1)
    word, place, ahead = "", 0, number
    for rest in reversed(range(length)):
        low, up = steps[place]
        many = counts[rest][low]
        if ahead < many:
            word, place = word + "l", low
        else:
            word, place, ahead = word + "u", up, ahead - many
    return word
