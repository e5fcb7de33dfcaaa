"""Fields: trees and pushes that change by edits, with undo."""

from marktopples.bounds import BATCH, MAX_LENGTH, MAX_PUSHES
from marktopples.cameras import Camera
from marktopples.checks import is_number_from_to, is_tick
from marktopples.errors import (
    BadEdit, BadEdits, BadLength, BadTick, BadTree, Busy, FallError, NoMark, NoPush, NoRow, NothingToUndo, NoVersion,
    Rejected, TooManyEdits, TooManyPushes,
)
from marktopples.falls import falls_of, needed_pushes
from marktopples.seen import ranges_of
from marktopples.texts import parse_field
from marktopples.trees import is_mark, tree_error

# The number of items of each edit: its name and the values that it takes.
EDIT_ITEMS = {"push": 3, "pull": 2, "stretch": 3}


class Field:
    """A tree and pushes, possibly none; the arguments of all methods may be any values, except watch."""

    MOST_EDITS = 60

    def __init__(self, tree):
        error = tree_error(tree)
        if error is not None:
            raise BadTree(error)
        self._edits = ()
        # The tree, the pushes and the falls for each version; tuples, so that a batch can keep what was before it.
        self._states = (_state_of(tree, ()),)
        self._is_watched = False

    @property
    def tree(self):
        """The present tree."""
        return self._states[-1][0]

    @property
    def pushes(self):
        """The present pushes."""
        return self._states[-1][1]

    @property
    def falls(self):
        """The ticks at which the marks fall, None for each mark if there is no push."""
        return self._states[-1][2]

    @property
    def finish(self):
        """The greatest tick at which a mark falls, or None."""
        return max(self.falls) if self.pushes else None

    def push(self, mark, tick):
        """Put a push at the end of the pushes and return the new version."""
        self._check_edit()
        if not is_mark(self.tree, mark):
            raise NoMark(mark)
        if not is_tick(tick):
            raise BadTick(tick)
        if len(self.pushes) == MAX_PUSHES:
            raise TooManyPushes()
        return self._stand(("push", mark, tick), self.tree, self.pushes + ((mark, tick),))

    def pull(self, index):
        """Remove the push with this index and return the new version."""
        self._check_edit()
        if not is_number_from_to(index, 0, len(self.pushes) - 1):
            raise NoPush(index)
        return self._stand(("pull", index), self.tree, self.pushes[:index] + self.pushes[index + 1:])

    def stretch(self, mark, length):
        """Give the row between the mark and its parent this length and return the new version."""
        self._check_edit()
        tree = self.tree
        if not is_number_from_to(mark, 1, len(tree)):
            raise NoRow(mark)
        if not is_number_from_to(length, 1, MAX_LENGTH):
            raise BadLength(length)
        # Row k joins mark k + 1 with its parent.
        row = (tree[mark - 1][0], length)
        return self._stand(("stretch", mark, length), tree[:mark - 1] + (row,) + tree[mark:], self.pushes)

    def _check_idle(self):
        if self._is_watched:
            raise Busy()

    def _check_edit(self):
        self._check_idle()
        if len(self._edits) == Field.MOST_EDITS:
            raise TooManyEdits()

    def _stand(self, edit, tree, pushes):
        self._states = self._states + (_state_of(tree, pushes),)
        self._edits = self._edits + (edit,)
        return len(self._edits)

    def undo(self):
        """Remove the last edit that stands and return the new version."""
        self._check_idle()
        if not self._edits:
            raise NothingToUndo()
        self._states = self._states[:-1]
        self._edits = self._edits[:-1]
        return len(self._edits)

    def attempt(self, edits, *, watch=None):
        """Do these edits until watch(field) stops them, or none of them; return the number of edits done."""
        self._check_idle()
        if not isinstance(edits, (list, tuple)) or len(edits) > BATCH:
            raise BadEdits()
        batch = list(edits)
        for index, edit in enumerate(batch):
            if not _is_edit(edit):
                raise BadEdit(index)
        states = self._states
        stood = self._edits
        try:
            done = self._do_batch(batch, watch)
            states = self._states
            stood = self._edits
        finally:
            # Whatever a watch raises, nothing of the batch stands then.
            self._is_watched = False
            self._states = states
            self._edits = stood
        return done

    def _do_batch(self, batch, watch):
        for index, edit in enumerate(batch):
            self._do_edit(index, edit)
            if watch is not None and self._is_stopped_by(watch):
                return index + 1
        return len(batch)

    def _do_edit(self, index, edit):
        try:
            if edit[0] == "push":
                self.push(edit[1], edit[2])
            elif edit[0] == "pull":
                self.pull(edit[1])
            else:
                self.stretch(edit[1], edit[2])
        except (FallError, NoMark, NoPush, NoRow):
            raise Rejected(index)

    def _is_stopped_by(self, watch):
        self._is_watched = True
        is_stopped = bool(watch(self))
        self._is_watched = False
        return is_stopped

    def state(self, *, version=None):
        """Return the tree and the pushes, now or after so many of the edits that stand."""
        tree, pushes, _ = self._state_at(version)
        return (tree, pushes)

    def _state_at(self, version):
        if version is None:
            return self._states[-1]
        if not is_number_from_to(version, 0, len(self._edits)):
            raise NoVersion(version)
        return self._states[version]

    def fall_of(self, mark, *, version=None):
        """Return the tick at which the mark falls, or None if there is no push."""
        tree, _, falls = self._state_at(version)
        if not is_mark(tree, mark):
            raise NoMark(mark)
        return falls[mark]

    def needed(self, *, version=None):
        """Return the needed pushes of the table of the falls, () if there is no push."""
        tree, pushes, falls = self._state_at(version)
        return needed_pushes(tree, falls) if pushes else ()

    def walk(self):
        """Yield (tick, the marks that fall then) for each tick at which some mark falls, in ascending order."""
        if self.pushes:
            falls = self.falls
            for tick in sorted(set(falls)):
                yield (tick, tuple([mark for mark, fall in enumerate(falls) if fall == tick]))

    def edits(self):
        """Return the edits that stand, the first one first."""
        return self._edits

    @classmethod
    def read(cls, text):
        """Return a new field with the tree and the pushes of a text, without edits."""
        tree, pushes = parse_field(text)
        field = cls(tree)
        field._states = (_state_of(tree, pushes),)
        return field

    def __len__(self):
        return len(self._edits)

    def __str__(self):
        return (
            f"{len(self.falls)} marks, {len(self.pushes)} pushes, finish {self.finish}, {len(self._edits)} edits"
        )

    def __eq__(self, other):
        return isinstance(other, Field) and self.tree == other.tree and self.falls == other.falls


class WatchedField(Field, Camera):
    """A field of which a camera sees some marks."""

    def __init__(self, tree, marks):
        Field.__init__(self, tree)
        Camera.__init__(self, marks)

    @property
    def known(self):
        """The range of each mark, as far as the seen marks tell, or None if there is no push."""
        return ranges_of(self.tree, self.shot(self.falls)) if self.pushes else None


def _state_of(tree, pushes):
    falls = falls_of(tree, pushes) if pushes else (None,) * (len(tree) + 1)
    return (tree, pushes, falls)


def _is_edit(value):
    if not isinstance(value, tuple) or len(value) == 0 or not isinstance(value[0], str):
        return False
    return EDIT_ITEMS.get(value[0]) == len(value)
