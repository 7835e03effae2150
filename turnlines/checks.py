"""Checks of numbers, shared by the modules of the package."""

from turnlines.errors import InvalidNumber


def is_whole(value):
    """Tell whether a value is a whole number; a Boolean is none."""
    return isinstance(value, int) and not isinstance(value, bool)


def need_number(value, least, most):
    """Refuse what is not a whole number within two bounds."""
    if not is_whole(value) or not least <= value <= most:
        raise InvalidNumber(value)


def is_count(value):
    """Tell whether a value is a whole number of at least 0."""
    return is_whole(value) and value >= 0


def need_count(value):
    """Refuse what is not a count."""
    if not is_count(value):
        raise InvalidNumber(value)
