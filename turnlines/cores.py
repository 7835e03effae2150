"""Cores: what is left of an order without its corners of the size 1."""

from turnlines.corners import gaps_led_to, marked_size, sizes, struck
from turnlines.deeds import left_done
from turnlines.orders import need_order


def lone_gaps(order):
    """Return the list of the gaps other than 0 that lead to themselves."""
    need_order(order)
    return [gap for gap, led_to in enumerate(gaps_led_to(order)) if gap == led_to and gap > 0]


def first_step(order):
    """Return the first step of the core walk, None if there is none."""
    lone = lone_gaps(order)
    if lone and len(order) > 2:
        return ("out", lone[0])
    if marked_size(order) > 1 or sizes(order)[-1] == 1:
        return None
    return ("left", "u" if marked_size(left_done(order, "u")) > 1 else "l")


def stepped(order, step):
    """Return the order behind a step of the core walk."""
    kind, what = step
    return struck(order, what) if kind == "out" else left_done(order, what)


def core_walk(order):
    """Return the list of the steps that lead an order to its core."""
    walk, row = [], order
    step = first_step(row)
    while step is not None:
        walk.append(step)
        row = stepped(row, step)
        step = first_step(row)
    return walk


def core(order):
    """Return the order that the core walk leaves."""
    need_order(order)
    row = list(order)
    for step in core_walk(order):
        row = stepped(row, step)
    return row


def is_core(order):
    """Tell whether no corner of an order has the size 1, or the order is the one of two letters."""
    return 1 not in sizes(order) or len(order) == 2
