"""The two deeds, and the words that are made of them."""

from turnlines.errors import InvalidDeed, InvalidWord
from turnlines.orders import mirror_of, need_order

DEEDS = ("u", "l")
MOST_SIGNS = 10000


def need_deed(deed):
    """Refuse what is not a deed."""
    if deed not in DEEDS:
        raise InvalidDeed(deed)


def need_word(word):
    """Refuse what is not a word."""
    if not is_word(word):
        raise InvalidWord(word)


def deed_done(order, deed):
    """Return the order behind a deed, without a check."""
    if deed == "u":
        behind = order.index(len(order) - 1) + 1
        return order[:behind] + order[-1:] + order[behind:-1]
    last = order[-1]
    # Above, the last letter now stands directly behind this one and takes the name of the next.
    names = list(range(last + 1)) + list(range(last + 2, len(order))) + [last + 1]
    return [names[letter] for letter in order]


def names_ahead(order, deed):
    """Return for each letter its name ahead of a deed, given the order ahead of it or the one behind it."""
    if deed == "u":
        return list(range(len(order)))
    last, greatest = order[-1], len(order) - 1
    return list(range(last + 1)) + [greatest] + list(range(last + 1, greatest))


def deed_undone(order, deed):
    """Return the order from which a deed leads to this one, without a check."""
    if deed == "u":
        behind = order.index(len(order) - 1) + 1
        return order[:behind] + order[behind + 1:] + [order[behind]]
    names = names_ahead(order, deed)
    return [names[letter] for letter in order]


def done(order, deed):
    """Return the order behind a deed."""
    need_order(order)
    need_deed(deed)
    return deed_done(order, deed)


def undone(order, deed):
    """Return the only order from which a deed leads to this one."""
    need_order(order)
    need_deed(deed)
    return deed_undone(order, deed)


def left_done(order, deed):
    """Return the order behind a deed that is done at the other end of both rows."""
    need_order(order)
    need_deed(deed)
    return mirror_of(deed_done(mirror_of(order), deed))


def ring_size(order, deed):
    """Return how many times a deed has to be done until the order has come again."""
    need_order(order)
    need_deed(deed)
    # The letters behind the one that stays last in the other row go round, and no others.
    stays = order.index(len(order) - 1) if deed == "u" else order[-1]
    return len(order) - 1 - stays


def is_word(value):
    """Tell whether a value is a text of at most 10,000 deeds."""
    if not isinstance(value, str) or len(value) > MOST_SIGNS:
        return False
    return all(sign in DEEDS for sign in value)


def led(order, word):
    """Return the order behind all deeds of a word."""
    need_order(order)
    need_word(word)
    row = list(order)
    for deed in word:
        row = deed_done(row, deed)
    return row


def led_back(order, word):
    """Return the only order from which a word leads to this one."""
    need_order(order)
    need_word(word)
    row = list(order)
    for deed in word[::-1]:
        row = deed_undone(row, deed)
    return row
