"""The errors of the package, each with its fields as attributes."""


class FallError(ValueError):
    """The base of all errors of the package that are not about a lookup."""


class TooLarge(FallError):
    """Something would be greater than this bound."""

    def __init__(self, bound):
        self.bound = bound


class BadPushes(FallError):
    """The item with this index is not a push; None: the whole value is wrong."""

    def __init__(self, index):
        self.index = index


class NoTable(FallError):
    """No table fits the windows: this pair excludes them all."""

    def __init__(self, pair):
        self.pair = pair


class Conflict(FallError):
    """No table agrees with the seen falls of these two marks."""

    def __init__(self, pair):
        self.pair = pair


class NoLast(FallError):
    """The window of this mark has no last tick."""

    def __init__(self, mark):
        self.mark = mark


class BadTree(FallError):
    """A value is not a tree, for the reason that tree_error gives."""

    def __init__(self, error):
        self.error = error


class Busy(FallError):
    """A watch of the field is running."""


class TooManyEdits(FallError):
    """As many edits stand as a field can have."""


class BadTick(FallError):
    """This value is not a tick."""

    def __init__(self, value):
        self.value = value


class TooManyPushes(FallError):
    """There are as many pushes as a field can have."""


class BadLength(FallError):
    """This value is not the length of a row."""

    def __init__(self, value):
        self.value = value


class NothingToUndo(FallError):
    """No edit stands."""


class BadEdits(FallError):
    """A batch is not a list or tuple, or is too long."""


class BadEdit(FallError):
    """The item of the batch with this index is not an edit."""

    def __init__(self, index):
        self.index = index


class Rejected(FallError):
    """The edit of the batch with this index raised an error."""

    def __init__(self, index):
        self.index = index


class BadMarks(FallError):
    """This value is not an ascending tuple of marks."""

    def __init__(self, value):
        self.value = value


class BadTable(FallError):
    """This value is not a table."""

    def __init__(self, value):
        self.value = value


class OtherTree(FallError):
    """Two values have different trees."""


class BadWindows(FallError):
    """This value is not windows of the tree."""

    def __init__(self, value):
        self.value = value


class Misfit(FallError):
    """This mark does not fall within its window."""

    def __init__(self, mark):
        self.mark = mark


class BadText(FallError):
    """The word with this index is wrong; None: the value is not a text."""

    def __init__(self, index):
        self.index = index


class NoMark(LookupError):
    """This value is not a mark."""

    def __init__(self, value):
        self.value = value


class NoPush(LookupError):
    """This value is not the index of a push."""

    def __init__(self, value):
        self.value = value


class NoRow(LookupError):
    """This value is not a mark that a row joins with a parent."""

    def __init__(self, value):
        self.value = value


class NoVersion(LookupError):
    """This value is not a version of the field."""

    def __init__(self, value):
        self.value = value
