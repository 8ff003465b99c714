"""Checks of numbers that several modules need."""

from eventsim.errors import NumberError
from eventsim.limits import LAST_TIME


def is_between(thing, low, high):
    """Return whether a value is an integer from low to high; None as high means that there is no upper end."""
    if not isinstance(thing, int) or isinstance(thing, bool):
        return False
    return low <= thing and (high is None or thing <= high)


def check_number(thing, low, high, name):
    """Raise NumberError unless a value is an integer from low to high."""
    if not is_between(thing, low, high):
        raise NumberError(f"{name} must be an integer from {low} to {high}")


def check_time(thing, name):
    """Raise NumberError unless a value is an integer that can be a time, a horizon or a length."""
    check_number(thing, 0, LAST_TIME, name)


def check_index(thing, parts, name):
    """Raise NumberError unless a value is the number of one of the parts."""
    check_number(thing, 0, len(parts) - 1, name)


def is_same(thing, known):
    """Return whether a value agrees in all parts with a known one that consists of tuples, strings and integers."""
    # The first comparison is quick; the second one tells True from 1, wherever they stand.
    return thing == known and _has_same_kinds(thing, known)


def _has_same_kinds(thing, known):
    """Return whether two equal values agree in where bools stand."""
    if isinstance(known, tuple):
        return all([_has_same_kinds(part, known_part) for part, known_part in zip(thing, known)])
    return not isinstance(thing, bool)
