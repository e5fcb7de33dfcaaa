"""Windows in which the marks must fall, and the tables that fit them."""

from marktopples.bounds import MAX_TICK
from marktopples.checks import is_number_from_to
from marktopples.errors import NoTable
from marktopples.falls import is_table
from marktopples.trees import distance_between


def is_windows(tree, value):
    """Return whether any value is windows of the tree."""
    if not isinstance(value, tuple) or len(value) != len(tree) + 1:
        return False
    return all([_is_window(window) for window in value])


def _is_window(value):
    if not isinstance(value, tuple) or len(value) != 2:
        return False
    least, last = value
    if not is_number_from_to(least, 0, MAX_TICK):
        return False
    return last is None or is_number_from_to(last, least, MAX_TICK)


def fits(tree, windows, value):
    """Return whether any value is a possible table with each number in its window."""
    if not is_table(tree, value):
        return False
    return all([_is_within(window, number) for window, number in zip(windows, value)])


def _is_within(window, number):
    least, last = window
    return least <= number and (last is None or number <= last)


def find_pair(tree, windows):
    """Return the smallest pair that excludes all tables, or None if some table fits."""
    for one in range(len(windows)):
        for other in range(len(windows)):
            if _is_pair(tree, windows, one, other):
                return (one, other)
    return None


def _is_pair(tree, windows, one, other):
    # A mark and itself are never a pair: no last tick is less than the least one of its window.
    least = windows[one][0]
    last = windows[other][1]
    return last is not None and least > last + distance_between(tree, one, other)


def earliest(tree, windows):
    """Return the table that fits with the least number for each mark."""
    _check_some_table(tree, windows)
    return tuple([_earliest_number(tree, windows, mark) for mark in range(len(windows))])


def latest(tree, windows):
    """Return the table that fits with the greatest number for each mark, or None for each mark."""
    _check_some_table(tree, windows)
    return tuple([_latest_number(tree, windows, mark) for mark in range(len(windows))])


def _check_some_table(tree, windows):
    pair = find_pair(tree, windows)
    if pair is not None:
        raise NoTable(pair)


def _earliest_number(tree, windows, mark):
    # A fall before this one would reach some other mark before its least tick.
    return max([least - distance_between(tree, other, mark) for other, (least, _) in enumerate(windows)])


def _latest_number(tree, windows, mark):
    ends = [(other, last) for other, (_, last) in enumerate(windows) if last is not None]
    return min([last + distance_between(tree, other, mark) for other, last in ends], default=None)


def greatest_difference(tree, windows, one, other):
    """Return the greatest difference, number of one less that of other, in tables that fit."""
    _check_some_table(tree, windows)
    distance = distance_between(tree, one, other)
    last = _latest_number(tree, windows, one)
    if last is None:
        return distance
    return min(distance, last - _earliest_number(tree, windows, other))


def order_of(tree, windows, one, other):
    """Return whether one falls before other "always", "sometimes" or "never" in tables that fit."""
    if greatest_difference(tree, windows, one, other) < 0:
        return "always"
    if greatest_difference(tree, windows, other, one) <= 0:
        return "never"
    return "sometimes"
