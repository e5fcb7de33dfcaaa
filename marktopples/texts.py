"""The texts of numbers, rows, pushes and fields, and how they are read."""

from marktopples.bounds import MAX_MARKS, MAX_PUSHES
from marktopples.errors import BadText
from marktopples.falls import is_push
from marktopples.trees import is_row

# No number that a text may have is longer.
MOST_DIGITS = 10


def field_text(tree, pushes):
    """Return the text of a field with this tree and these pushes, which may be none."""
    rows = " ".join([f"{parent}:{length}" for parent, length in tree])
    return " ".join([rows + ";"] + [push_text(mark, tick) for mark, tick in pushes])


def push_text(mark, tick):
    """Return the text of a push."""
    return f"{mark}@{tick}"


def parse_field(value):
    """Return the tree and the pushes whose text it is; value may be any value."""
    if not isinstance(value, str):
        raise BadText(None)
    words = value.split(" ")
    ends = [index for index, word in enumerate(words) if word.endswith(";")]
    many = ends[0] + 1 if ends else len(words)
    tree = _parse_rows(words[:many])
    if not ends:
        raise BadText(len(words))
    return (tree, _parse_pushes(tree, words[many:], many))


def _parse_rows(words):
    if words == [";"]:
        return ()
    rows = []
    for index, word in enumerate(words):
        # Only the last word of the rows can end with ";".
        row = _parse_pair(word.removesuffix(";"), ":")
        if index == MAX_MARKS - 1 or not is_row(row, index):
            raise BadText(index)
        rows.append(row)
    return tuple(rows)


def _parse_pushes(tree, words, first):
    pushes = []
    for index, word in enumerate(words):
        push = _parse_pair(word, "@")
        if index == MAX_PUSHES or not is_push(tree, push):
            raise BadText(first + index)
        pushes.append(push)
    return tuple(pushes)


def _parse_pair(word, sign):
    left, _, right = word.partition(sign)
    return (parse_number(left), parse_number(right))


def parse_number(text):
    """Return the number of at most 10 digits whose text it is, or None."""
    # Some characters count as digits that are not ASCII ones.
    if not text.isascii() or not text.isdigit() or len(text) > MOST_DIGITS:
        return None
    if text.startswith("0") and text != "0":
        return None
    return int(text)
