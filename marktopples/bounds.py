"""The bounds of trees, ticks, pushes and edits."""

MAX_MARKS = 12
MAX_LENGTH = 10 ** 6
MAX_TICK = 10 ** 9
LIMIT = 2 * 10 ** 9
MAX_PUSHES = 20
SMALL_TICK = 300
MAX_EDITS = 60
BATCH = 20
