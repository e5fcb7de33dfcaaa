"""Trees: their check, the ways in them, and greater trees made of them."""

from marktopples.bounds import MAX_LENGTH, MAX_MARKS
from marktopples.checks import is_number_from_to
from marktopples.errors import TooLarge


def is_tree(value):
    """Return whether any value is a tree."""
    return tree_error(value) is None


def tree_error(value):
    """Return None for a tree, (None, "tree") or (index, "row") for any other value."""
    if not isinstance(value, tuple) or len(value) > MAX_MARKS - 1:
        return (None, "tree")
    for index, row in enumerate(value):
        if not is_row(row, index):
            return (index, "row")
    return None


def is_row(row, index):
    """Return whether any value is a row that a tree can have at this index."""
    if not isinstance(row, tuple) or len(row) != 2:
        return False
    return is_number_from_to(row[0], 0, index) and is_number_from_to(row[1], 1, MAX_LENGTH)


def is_mark(tree, value):
    """Return whether any value is a mark of the tree."""
    return is_number_from_to(value, 0, len(tree))


def distance_between(tree, one, other):
    """Return the sum of the lengths of the rows on the way between two marks."""
    way = way_between(tree, one, other)
    # The greater one of two neighbours is the one whose parent the other one is.
    return sum([tree[max(near, far) - 1][1] for near, far in zip(way, way[1:])])


def distances_of(tree):
    """Return a list for each mark, with its distances from all marks: all of them cost little more than one."""
    far = [[0]]
    for parent, length in tree:
        # The way to the new mark is the way to its parent and this row.
        near = [way + length for way in far[parent]]
        far = [ways + [near[mark]] for mark, ways in enumerate(far)] + [near + [0]]
    return far


def way_between(tree, one, other):
    """Return the marks on the way from one to other, both included."""
    start = [one]
    end = [other]
    while start[-1] != end[-1]:
        # A parent is less than its mark, so the greater mark is not above the other one.
        if start[-1] > end[-1]:
            start.append(tree[start[-1] - 1][0])
        else:
            end.append(tree[end[-1] - 1][0])
    end.pop()
    return tuple(start + end[::-1])


def neighbours_of(tree, mark):
    """Return (neighbour, length of the row between them) for each neighbour of the mark."""
    above = [tree[mark - 1]] if mark > 0 else []
    below = [(row + 1, length) for row, (parent, length) in enumerate(tree) if parent == mark]
    return above + below


def hung(tree, mark, length):
    """Return the tree with one more mark, joined with mark by a row of this length."""
    return joined(tree, mark, (), length=length)


def joined(tree, mark, other, *, length=1):
    """Return the tree with the marks of other behind its own, a row joining mark with the first of them."""
    first = len(tree) + 1
    if first + len(other) + 1 > MAX_MARKS:
        raise TooLarge(MAX_MARKS)
    rows = [(parent + first, size) for parent, size in other]
    return tree + ((mark, length),) + tuple(rows)
