"""Checks of numbers that several modules need."""

from eventsim.errors import NumberError


def is_between(thing, low, high):
    """Return whether a value is an integer from low to high; None as high means that there is no upper end."""
    if not isinstance(thing, int) or isinstance(thing, bool):
        return False
    return low <= thing and (high is None or thing <= high)


def check_number(thing, low, high, name):
    """Raise NumberError unless a value is an integer from low to high."""
    if not is_between(thing, low, high):
        raise NumberError(f"{name} must be an integer from {low} to {high}")
