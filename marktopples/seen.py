"""Seen falls: whether some table agrees with them, and what they tell about all marks."""

from marktopples.errors import Conflict
from marktopples.serving import fewest_pushes
from marktopples.trees import distances_of


def find_conflict(tree, seen):
    """Return the smallest two seen marks whose ticks exclude each other, or None if some table agrees."""
    return _conflict_at(distances_of(tree), seen)


def _conflict_at(far, seen):
    for index, (one, tick) in enumerate(seen):
        for other, other_tick in seen[index + 1:]:
            if abs(tick - other_tick) > far[one][other]:
                return (one, other)
    return None


def _check_no_conflict(far, seen):
    pair = _conflict_at(far, seen)
    if pair is not None:
        raise Conflict(pair)


def ranges_of(tree, seen):
    """Return the least and the greatest number of each mark in tables that agree; None if there is no greatest."""
    far = distances_of(tree)
    _check_no_conflict(far, seen)
    return tuple([_range_from(ways, seen) for ways in far])


def _range_from(ways, seen):
    low = max([0] + [tick - ways[mark] for mark, tick in seen])
    high = min([tick + ways[mark] for mark, tick in seen], default=None)
    return (low, high)


def fewest_behind(tree, seen):
    """Return the least number of pushes that lead to a table that agrees."""
    _check_no_conflict(distances_of(tree), seen)
    pushes, _ = fewest_pushes(tree, _windows_for(tree, seen))
    return len(pushes)


def _windows_for(tree, seen):
    # Exactly the tables that agree fit these windows.
    windows = [(0, None)] * (len(tree) + 1)
    for mark, tick in seen:
        windows[mark] = (tick, tick)
    return tuple(windows)
