"""Signs of orders, and whether some word leads from one order to another one."""

from turnlines.corners import marked_size, sizes
from turnlines.errors import Unlike
from turnlines.folds import is_folded
from turnlines.orders import need_order
from turnlines.setcounts import sign_sum


def need_pair(one, other):
    """Refuse what are not two orders of one size."""
    need_order(one)
    need_order(other)
    if len(one) != len(other):
        raise Unlike(other)


def signs(order):
    """Return the sizes of an order's corners, its marked size, its sign sum, and whether it is folded."""
    return (sizes(order), marked_size(order), sign_sum(order), is_folded(order))


def unlike_sign(one, other):
    """Return the place of the first sign in which two orders differ, None if they have the same signs."""
    need_pair(one, other)
    for place, (sign, against) in enumerate(zip(signs(one), signs(other))):
        if sign != against:
            return place
    return None


def joined(one, other):
    """Tell whether some word leads from one order to another one, both of at most 9 letters."""
    return unlike_sign(one, other) is None
