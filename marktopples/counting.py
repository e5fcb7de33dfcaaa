"""The number of the tables that fit windows, and these tables, one after another."""

from marktopples.bounds import LIMIT, SMALL_TICK
from marktopples.errors import NoLast, TooLarge
from marktopples.windows import earliest, find_pair, latest


def count_tables(tree, windows):
    """Return the number of tables that fit windows with small last ticks."""
    _check_small(windows)
    counts = [_counts_alone(window) for window in windows]
    # A parent is less than its mark, so each mark has got all that hangs on it before its parent gets it.
    for row in reversed(range(len(tree))):
        parent, length = tree[row]
        counts[parent] = _counts_with(counts[parent], counts[row + 1], length)
    return sum(counts[0])


def _check_small(windows):
    for mark, (_, last) in enumerate(windows):
        if last is None:
            raise NoLast(mark)
    if max([last for _, last in windows]) > SMALL_TICK:
        raise TooLarge(SMALL_TICK)


def _counts_alone(window):
    least, last = window
    return [1 if least <= tick <= last else 0 for tick in range(SMALL_TICK + 1)]


def _counts_with(counts, hung_counts, length):
    """Return for each tick of a mark the number of tables of all that it had and of what hangs on it, too."""
    sums = [0]
    for count in hung_counts:
        sums.append(sums[-1] + count)
    end = len(hung_counts)
    # The item tick of sums belongs to all ticks before this one.
    return [
        count * (sums[min(tick + length + 1, end)] - sums[max(tick - length, 0)])
        for tick, count in enumerate(counts)
    ]


def each_table(tree, windows):
    """Yield the tables that fit in ascending order."""
    if find_pair(tree, windows) is None:
        lows = earliest(tree, windows)
        highs = latest(tree, tuple([_limited(window) for window in windows]))
        table = _least_table(tree, lows, ())
        while table is not None:
            yield table
            table = _table_behind(tree, lows, highs, table)


def _limited(window):
    least, last = window
    return (least, LIMIT if last is None else last)


def _least_table(tree, lows, start):
    """Return the least table whose first numbers are those of start."""
    # Between the earliest and the latest table, numbers that suit all rows so far can always be continued.
    numbers = list(start)
    for mark in range(len(start), len(lows)):
        low = lows[mark]
        if mark > 0:
            parent, length = tree[mark - 1]
            low = max(low, numbers[parent] - length)
        numbers.append(low)
    return tuple(numbers)


def _table_behind(tree, lows, highs, table):
    """Return the least table that is greater than this one, or None."""
    for mark in reversed(range(len(table))):
        if table[mark] < _high_of(tree, highs, table, mark):
            return _least_table(tree, lows, table[:mark] + (table[mark] + 1,))
    return None


def _high_of(tree, highs, table, mark):
    if mark == 0:
        return highs[0]
    parent, length = tree[mark - 1]
    return min(highs[mark], table[parent] + length)
