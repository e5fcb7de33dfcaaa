"""The check of numbers that all files share."""


def is_number_from_to(value, least, most):
    """Return whether any value is a number from least to most, both included."""
    return isinstance(value, int) and not isinstance(value, bool) and least <= value <= most
