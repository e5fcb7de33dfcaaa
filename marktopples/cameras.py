"""Cameras, which see the falls of some marks."""

from marktopples.bounds import LIMIT, MAX_MARKS
from marktopples.checks import is_number_from_to
from marktopples.errors import BadMarks, BadTable


class Camera:
    """A camera that sees these marks of any tree, as far as the tree has them."""

    def __init__(self, marks):
        if not _are_seen_marks(marks):
            raise BadMarks(marks)
        self._marks = marks

    @property
    def marks(self):
        """The ascending tuple of the marks that the camera sees."""
        return self._marks

    def shot(self, table):
        """Return the seen falls of a table; the argument may be any value."""
        if not _is_shown(table):
            raise BadTable(table)
        return tuple([(mark, table[mark]) for mark in self._marks if mark < len(table)])


def _are_seen_marks(value):
    if not isinstance(value, tuple) or len(value) > MAX_MARKS:
        return False
    if not all([is_number_from_to(mark, 0, MAX_MARKS - 1) for mark in value]):
        return False
    return all([one < other for one, other in zip(value, value[1:])])


def _is_shown(value):
    # Whether the table is possible depends on a tree, which a camera does not know.
    if not isinstance(value, tuple) or not 1 <= len(value) <= MAX_MARKS:
        return False
    return all([is_number_from_to(number, 0, LIMIT) for number in value])
