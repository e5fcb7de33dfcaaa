"""The fewest pushes for windows, the reason that fewer are not enough, and the least finish."""

from marktopples.checks import is_number_from_to
from marktopples.errors import BadPushes
from marktopples.falls import falls_of
from marktopples.trees import distance_between
from marktopples.windows import earliest, fits


def serving_part(tree, windows, mark):
    """Return the marks from which a push can make this mark fall in time."""
    return _part_from(tree, windows, earliest(tree, windows), mark)


def _part_from(tree, windows, firsts, mark):
    last = windows[mark][1]
    if last is None:
        return tuple(range(len(windows)))
    return tuple([other for other, first in enumerate(firsts) if first + distance_between(tree, other, mark) <= last])


def fewest_pushes(tree, windows):
    """Return as few pushes as possible whose falls fit, and as many marks that need one each."""
    firsts = earliest(tree, windows)
    parts = [_part_from(tree, windows, firsts, mark) for mark in range(len(windows))]
    tops, marks = _meet_parts(parts)
    return (tuple([(top, firsts[top]) for top in sorted(tops)]), tuple(sorted(marks)))


def _meet_parts(parts):
    # The least mark of a part is its top, as a parent is less than its mark. From the greatest top to the
    # least one, a part that has a mark in common with an earlier chosen part contains the top of that one.
    order = sorted([(part[0], mark) for mark, part in enumerate(parts)], reverse=True)
    tops = []
    marks = []
    for top, mark in order:
        if not any([chosen in parts[mark] for chosen in tops]):
            tops.append(top)
            marks.append(mark)
    return tops, marks


def shows_fewest(tree, windows, value):
    """Return whether any value is fitting pushes and as many marks that need one each."""
    if not isinstance(value, tuple) or len(value) != 2:
        return False
    pushes, marks = value
    # Only if the falls fit is it sure that there are serving parts.
    if not _falls_fit(tree, windows, pushes) or not _are_marks(tree, marks):
        return False
    return len(marks) == len(pushes) and _are_apart(tree, windows, marks)


def _falls_fit(tree, windows, value):
    try:
        falls = falls_of(tree, value)
    except BadPushes:
        return False
    return fits(tree, windows, falls)


def _are_marks(tree, value):
    if not isinstance(value, tuple) or not all([is_number_from_to(mark, 0, len(tree)) for mark in value]):
        return False
    return all([one < other for one, other in zip(value, value[1:])])


def _are_apart(tree, windows, marks):
    firsts = earliest(tree, windows)
    parts = [_part_from(tree, windows, firsts, mark) for mark in marks]
    members = [member for part in parts for member in part]
    return len(set(members)) == len(members)


def least_finish(tree, many):
    """Return the least finish of so many pushes, such pushes, and marks that need one more before it."""
    finish = _find_finish(tree, many)
    pushes, _ = fewest_pushes(tree, _windows_until(tree, finish))
    if finish == 0:
        return (finish, pushes, None)
    _, marks = fewest_pushes(tree, _windows_until(tree, finish - 1))
    return (finish, pushes, marks[:many + 1])


def _find_finish(tree, many):
    # Pushes at tick 0 are the best ones, so the finish is the distance of some mark from a push.
    marks = range(len(tree) + 1)
    finishes = sorted({distance_between(tree, one, other) for one in marks for other in marks})
    low = 0
    high = len(finishes) - 1
    while low < high:
        middle = (low + high) // 2
        if len(fewest_pushes(tree, _windows_until(tree, finishes[middle]))[0]) <= many:
            high = middle
        else:
            low = middle + 1
    return finishes[low]


def _windows_until(tree, last):
    return ((0, last),) * (len(tree) + 1)
