"""The checks of numbers that all files share."""

from marktopples.bounds import MAX_TICK


def is_number(value):
    """Return whether any value is a number, which a bool is not."""
    return isinstance(value, int) and not isinstance(value, bool)


def is_number_from_to(value, least, most):
    """Return whether any value is a number from least to most, both included."""
    return is_number(value) and least <= value <= most


def is_tick(value):
    """Return whether any value is a tick."""
    return is_number_from_to(value, 0, MAX_TICK)
