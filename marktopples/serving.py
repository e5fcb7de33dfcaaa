"""The fewest pushes for windows, the reason that fewer are not enough, and the least finish."""

from marktopples.errors import BadPushes
from marktopples.falls import falls_of
from marktopples.trees import distances_of, is_mark
from marktopples.windows import earliest_at, fits


def serving_part(tree, windows, mark):
    """Return the marks from which a push can make this mark fall in time."""
    far = distances_of(tree)
    return _part_at(far, windows, earliest_at(far, windows), mark)


def _part_at(far, windows, firsts, mark):
    last = windows[mark][1]
    if last is None:
        return tuple(range(len(windows)))
    return tuple([other for other, (first, way) in enumerate(zip(firsts, far[mark])) if first + way <= last])


def fewest_pushes(tree, windows):
    """Return as few pushes as possible whose falls fit, and as many marks that need one each."""
    far = distances_of(tree)
    return _fewest_at(far, windows, earliest_at(far, windows))


def _fewest_at(far, windows, firsts):
    parts = [_part_at(far, windows, firsts, mark) for mark in range(len(windows))]
    tops, marks = _meet_parts(parts)
    return (tuple([(top, firsts[top]) for top in sorted(tops)]), tuple(sorted(marks)))


def _meet_parts(parts):
    # The least mark of a part is its top, as a parent is less than its mark. From the greatest top to the
    # least one, a part that has a mark in common with an earlier chosen part contains the top of that one.
    order = sorted([(part[0], mark) for mark, part in enumerate(parts)], reverse=True)
    tops = []
    marks = []
    for top, mark in order:
        if not any([chosen in parts[mark] for chosen in tops]):
            tops.append(top)
            marks.append(mark)
    return tops, marks


def shows_fewest(tree, windows, value):
    """Return whether any value is fitting pushes and as many marks that need one each."""
    if not isinstance(value, tuple) or len(value) != 2:
        return False
    pushes, marks = value
    # Only if the falls fit is it sure that there are serving parts.
    if not _falls_fit(tree, windows, pushes) or not _are_marks(tree, marks):
        return False
    return len(marks) == len(pushes) and _are_apart(tree, windows, marks)


def _falls_fit(tree, windows, value):
    try:
        falls = falls_of(tree, value)
    except BadPushes:
        return False
    return fits(tree, windows, falls)


def _are_marks(tree, value):
    if not isinstance(value, tuple) or not all([is_mark(tree, mark) for mark in value]):
        return False
    return all([one < other for one, other in zip(value, value[1:])])


def _are_apart(tree, windows, marks):
    far = distances_of(tree)
    firsts = earliest_at(far, windows)
    members = [member for mark in marks for member in _part_at(far, windows, firsts, mark)]
    return len(set(members)) == len(members)


def least_finish(tree, many):
    """Return the least finish of so many pushes, such pushes, and marks that need one more before it."""
    far = distances_of(tree)
    finish = _find_finish(far, many)
    pushes, _ = _fewest_until(far, finish)
    if finish == 0:
        return (finish, pushes, None)
    _, marks = _fewest_until(far, finish - 1)
    return (finish, pushes, marks[:many + 1])


def _find_finish(far, many):
    # Pushes at tick 0 are the best ones, so the finish is the distance of some mark from a push.
    finishes = sorted({way for ways in far for way in ways})
    low = 0
    high = len(finishes) - 1
    while low < high:
        middle = (low + high) // 2
        pushes, _ = _fewest_until(far, finishes[middle])
        if len(pushes) <= many:
            high = middle
        else:
            low = middle + 1
    return finishes[low]


def _fewest_until(far, last):
    # With these windows each mark can fall at tick 0, so that the earliest table need not be looked for.
    return _fewest_at(far, ((0, last),) * len(far), (0,) * len(far))
