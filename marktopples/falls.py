"""Pushes, the falls that they lead to, and the tables of falls."""

from marktopples.bounds import LIMIT, MAX_PUSHES
from marktopples.checks import is_number_from_to, is_tick
from marktopples.errors import BadPushes
from marktopples.trees import distances_of, is_mark, neighbours_of


def falls_of(tree, value):
    """Return the ticks at which the marks fall after these pushes; value may be any value."""
    if not isinstance(value, tuple) or not 1 <= len(value) <= MAX_PUSHES:
        raise BadPushes(None)
    for index, push in enumerate(value):
        if not is_push(tree, push):
            raise BadPushes(index)
    return tuple([_fall_from(ways, value) for ways in distances_of(tree)])


def is_push(tree, value):
    """Return whether any value is a push of the tree."""
    if not isinstance(value, tuple) or len(value) != 2:
        return False
    return is_mark(tree, value[0]) and is_tick(value[1])


def _fall_from(ways, pushes):
    return min([tick + ways[pushed] for pushed, tick in pushes])


def is_table(tree, value):
    """Return whether any value is a possible table of the tree."""
    if not isinstance(value, tuple) or len(value) != len(tree) + 1:
        return False
    if not all([is_number_from_to(number, 0, LIMIT) for number in value]):
        return False
    # Row k joins mark k + 1 with its parent.
    return all([abs(value[row + 1] - value[parent]) <= length for row, (parent, length) in enumerate(tree)])


def needed_pushes(tree, table):
    """Return the pushes that all pushes leading to the table contain, and that lead to it."""
    return tuple([(mark, number) for mark, number in enumerate(table) if _needs_push(tree, table, mark)])


def _needs_push(tree, table, mark):
    return all([table[mark] < table[other] + length for other, length in neighbours_of(tree, mark)])


def together(*tables):
    """Return the table with the least number of each mark in these tables."""
    return tuple([min(numbers) for numbers in zip(*tables)])
