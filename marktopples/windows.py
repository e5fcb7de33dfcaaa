"""Windows in which the marks must fall, and the tables that fit them."""

from marktopples.bounds import MAX_TICK
from marktopples.checks import is_number_from_to, is_tick
from marktopples.errors import NoTable
from marktopples.falls import is_table
from marktopples.trees import distances_of


def is_windows(tree, value):
    """Return whether any value is windows of the tree."""
    if not isinstance(value, tuple) or len(value) != len(tree) + 1:
        return False
    return all([_is_window(window) for window in value])


def _is_window(value):
    if not isinstance(value, tuple) or len(value) != 2:
        return False
    least, last = value
    if not is_tick(least):
        return False
    return last is None or is_number_from_to(last, least, MAX_TICK)


def fits(tree, windows, value):
    """Return whether any value is a possible table with each number in its window."""
    if not is_table(tree, value):
        return False
    return all([is_within(window, number) for window, number in zip(windows, value)])


def is_within(window, number):
    """Return whether a mark that falls at this number falls within its window."""
    least, last = window
    return least <= number and (last is None or number <= last)


def find_pair(tree, windows):
    """Return the smallest pair that excludes all tables, or None if some table fits."""
    return _pair_at(distances_of(tree), windows)


def _pair_at(far, windows):
    for one, (least, _) in enumerate(windows):
        for other, (_, last) in enumerate(windows):
            # A mark and itself are never a pair: no last tick is less than the least one of its window.
            if last is not None and least > last + far[one][other]:
                return (one, other)
    return None


def earliest(tree, windows):
    """Return the table that fits with the least number for each mark."""
    return earliest_at(distances_of(tree), windows)


def earliest_at(far, windows):
    """Return the earliest table from the distances of all marks, for callers that need these, too."""
    _check_some_table(far, windows)
    return tuple([_earliest_number(ways, windows) for ways in far])


def latest(tree, windows):
    """Return the table that fits with the greatest number for each mark, or None for each mark."""
    far = distances_of(tree)
    _check_some_table(far, windows)
    return tuple([_latest_number(ways, windows) for ways in far])


def _check_some_table(far, windows):
    pair = _pair_at(far, windows)
    if pair is not None:
        raise NoTable(pair)


def _earliest_number(ways, windows):
    # A fall before this one would reach some other mark before its least tick.
    return max([least - way for (least, _), way in zip(windows, ways)])


def _latest_number(ways, windows):
    return min([last + way for (_, last), way in zip(windows, ways) if last is not None], default=None)


def greatest_difference(tree, windows, one, other):
    """Return the greatest difference, number of one less that of other, in tables that fit."""
    far = distances_of(tree)
    _check_some_table(far, windows)
    last = _latest_number(far[one], windows)
    if last is None:
        return far[one][other]
    return min(far[one][other], last - _earliest_number(far[other], windows))


def order_of(tree, windows, one, other):
    """Return whether one falls before other "always", "sometimes" or "never" in tables that fit."""
    if greatest_difference(tree, windows, one, other) < 0:
        return "always"
    if greatest_difference(tree, windows, other, one) <= 0:
        return "never"
    return "sometimes"
