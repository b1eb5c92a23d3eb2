"""Integers of a range (point 2: a bool is not an integer)."""

from surepatterns.errors import InvalidNumber


def is_integer(value):
    """Tell whether any value is an integer."""
    return isinstance(value, int) and not isinstance(value, bool)


def is_integer_from(value, low, high):
    """Tell whether any value is an integer from low to high, both included."""
    return is_integer(value) and low <= value <= high


def need_integer(value, low, high):
    """Raise InvalidNumber if any value is not an integer from low to high."""
    if not is_integer_from(value, low, high):
        raise InvalidNumber(f"an integer from {low} to {high} is needed")
