"""Falls as values, and crews, which make them from pushes."""

from marktopples.bounds import LIMIT
from marktopples.checks import is_number, is_tick
from marktopples.errors import BadTable, BadTick, BadTree, BadWindows, Misfit, NoMark, OtherTree, TooLarge
from marktopples.falls import falls_of, is_table, together
from marktopples.trees import is_mark, tree_error
from marktopples.windows import is_windows, is_within


class Falls:
    """A tree and a possible table of it; the arguments may be any values."""

    def __init__(self, tree, table):
        error = tree_error(tree)
        if error is not None:
            raise BadTree(error)
        if not is_table(tree, table):
            raise BadTable(table)
        self._tree = tree
        self._table = table

    @property
    def tree(self):
        """The tree."""
        return self._tree

    @property
    def table(self):
        """The tuple of the numbers of the marks."""
        return self._table

    def __getitem__(self, at):
        """Return the number of the mark at; raise NoMark if it is not a mark."""
        if not is_mark(self._tree, at):
            raise NoMark(at)
        return self._table[at]

    def __iter__(self):
        raise TypeError("a Falls is not iterated over")

    def __or__(self, other):
        """Return the Falls with the least number of each mark; raise OtherTree for another tree."""
        if not isinstance(other, Falls):
            return NotImplemented
        if self._tree != other._tree:
            raise OtherTree()
        return Falls(self._tree, together(self._table, other._table))

    def __add__(self, other):
        """Return the Falls so many ticks later; raise BadTick if other is not a tick, or TooLarge."""
        if not is_tick(other):
            raise BadTick(other)
        table = tuple([number + other for number in self._table])
        if max(table) > LIMIT:
            raise TooLarge(LIMIT)
        return Falls(self._tree, table)

    def __contains__(self, x):
        """Return whether any value is a mark and a number at which the mark has fallen."""
        if not isinstance(x, tuple) or len(x) != 2:
            return False
        mark, number = x
        return is_mark(self._tree, mark) and is_number(number) and self._table[mark] <= number

    def __len__(self):
        return len(self._table)

    def __str__(self):
        return "\n".join([f"{mark:>2} {number:>13,}" for mark, number in enumerate(self._table)])

    def __eq__(self, other):
        return isinstance(other, Falls) and self._tree == other._tree and self._table == other._table


class Crew:
    """Makes the Falls of pushes that fit windows; the arguments may be any values."""

    def __init__(self, tree, windows):
        error = tree_error(tree)
        if error is not None:
            raise BadTree(error)
        if not is_windows(tree, windows):
            raise BadWindows(windows)
        self._tree = tree
        self._windows = windows
        self._tries = 0

    @property
    def tries(self):
        """The number of calls that have returned a Falls."""
        return self._tries

    def __call__(self, value):
        """Return the Falls of these pushes; raise BadPushes, or Misfit for the first mark out of its window."""
        table = falls_of(self._tree, value)
        for mark, number in enumerate(table):
            if not is_within(self._windows[mark], number):
                raise Misfit(mark)
        falls = Falls(self._tree, table)
        self._tries += 1
        return falls
