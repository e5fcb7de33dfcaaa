"""Shells, which work on a field by lines of text."""

from marktopples.errors import (
    BadLength, BadTick, Busy, NoMark, NoPush, NoRow, NothingToUndo, TooManyEdits, TooManyPushes,
)
from marktopples.texts import field_text, parse_number, push_text

# The number of numbers behind the name of each command.
EDITS = {"push": 2, "pull": 1, "stretch": 2, "undo": 0}
QUERIES = {"field": 0, "finish": 0, "falls": 0, "needed": 0}


class Shell:
    """A shell that works on this very field."""

    def __init__(self, field):
        self._field = field

    def execute(self, line):
        """Do the command in this line, which may be any value, and return the answer."""
        if not isinstance(line, str):
            return "unknown command"
        name, *words = line.split(" ")
        numbers = [parse_number(word) for word in words]
        if None not in numbers:
            if EDITS.get(name) == len(numbers):
                return self._try_edit(name, numbers)
            if QUERIES.get(name) == len(numbers):
                return self._answer(name)
        return "unknown command"

    def _try_edit(self, name, numbers):
        try:
            return f"ok {self._edit(name, numbers)}"
        except Busy:
            return "error Busy"
        except TooManyEdits:
            return "error TooManyEdits"
        except NoMark:
            return "error NoMark"
        except BadTick:
            return "error BadTick"
        except TooManyPushes:
            return "error TooManyPushes"
        except NoPush:
            return "error NoPush"
        except NoRow:
            return "error NoRow"
        except BadLength:
            return "error BadLength"
        except NothingToUndo:
            return "error NothingToUndo"

    def _edit(self, name, numbers):
        if name == "push":
            return self._field.push(numbers[0], numbers[1])
        if name == "pull":
            return self._field.pull(numbers[0])
        if name == "stretch":
            return self._field.stretch(numbers[0], numbers[1])
        return self._field.undo()

    def _answer(self, name):
        field = self._field
        if name == "field":
            return field_text(field.tree, field.pushes)
        if not field.pushes:
            return "none"
        if name == "finish":
            return f"{field.finish}"
        if name == "falls":
            return " ".join([f"{tick}" for tick in field.falls])
        return " ".join([push_text(mark, tick) for mark, tick in field.needed()])
