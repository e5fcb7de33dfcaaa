"""Trees and values that several tests share, and plain searches to compare the program with."""

import copy
import functools
import inspect
import itertools

from marktopples.errors import BadPushes, NoTable, TooLarge

T = ((0, 2), (1, 3))
W = ((0, 4), (3, 9), (0, 4))
LONGEST = 10 ** 6
LAST_TICK = 10 ** 9
LIMIT = 2 * 10 ** 9


def chain(marks, length=1):
    return tuple((k, length) for k in range(marks - 1))


def star(marks, length=1):
    return tuple((0, length) for k in range(marks - 1))


def shapes(marks):
    """Return all trees with so many marks; each sum of lengths tells which rows it is made of."""
    return shapes_with([2 ** k for k in range(marks - 1)])


def shapes_with(lengths):
    """Return all trees whose rows have these lengths, in this order."""
    parents = itertools.product(*[range(k + 1) for k in range(len(lengths))])
    return [tuple(zip(row, lengths)) for row in parents]


SEVERAL = [(), ((0, 5),), T, ((0, 2), (0, 3)), chain(12, LONGEST), star(12, LONGEST)] + [
    ((0, 4), (0, 9), (1, 2), (1, 7), (2, 1), (2, 30), (4, 5), (3, 8), (0, LONGEST), (9, 6), (7, 11)),
    ((0, 1), (1, 20), (1, 300), (3, 4000), (3, 50000), (5, 600000), (5, 7), (7, 80), (7, 900)),
]

# All shapes of up to four marks, with rows that are short enough for a search over all tables.
SMALL = [()] + [tree for lengths in ((1,), (3,), (1, 1), (2, 1), (1, 2, 1), (2, 3, 1)) for tree in shapes_with(lengths)]


def random_tree(chance, marks, longest):
    return tuple((chance.randint(0, k), chance.randint(1, longest)) for k in range(marks - 1))


def random_windows(chance, marks, last):
    """Return windows with ticks up to last, about every third without a last tick."""
    found = []
    for _ in range(marks):
        least = chance.randint(0, last)
        found.append((least, chance.choice([None, chance.randint(least, last), chance.randint(least, last)])))
    return tuple(found)


def windows_around(chance, table, most):
    """Return windows that the table fits, and whose ends are at most so far away from it."""
    found = []
    for number in table:
        last = number + chance.randint(0, most)
        found.append((max(0, number - chance.randint(0, most)), chance.choice([None, last, last])))
    return tuple(found)


@functools.lru_cache(maxsize=1000)
def plain_distances(tree):
    """Return the distances between all marks as a list of lists, found from row to row."""
    marks = range(len(tree) + 1)
    far = [[0 if one == other else 10 ** 15 for other in marks] for one in marks]
    for row, (parent, length) in enumerate(tree):
        far[parent][row + 1] = far[row + 1][parent] = length
    for middle, one, other in itertools.product(marks, repeat=3):
        far[one][other] = min(far[one][other], far[one][middle] + far[middle][other])
    return far


def plain_falls(tree, pushes):
    """Return the least of tick + distance over all pushes for each mark, whatever the ticks are."""
    far = plain_distances(tree)
    return tuple(min(tick + far[pushed][mark] for pushed, tick in pushes) for mark in range(len(tree) + 1))


def is_possible(tree, table):
    return all(abs(table[parent] - table[row + 1]) <= length for row, (parent, length) in enumerate(tree))


def plain_fits(tree, windows, table):
    """Return whether a table of numbers from 0 to LIMIT fits."""
    within = all(least <= number and (last is None or number <= last)
                 for (least, last), number in zip(windows, table))
    return within and is_possible(tree, table)


def tables_to(tree, top):
    """Return all possible tables with numbers from 0 to top."""
    numbers = itertools.product(range(top + 1), repeat=len(tree) + 1)
    return [table for table in numbers if is_possible(tree, table)]


def push_choices(tree, top):
    """Return all pushes at ticks from 0 to top with at most one at each mark, and at least one."""
    choices = itertools.product([None, *range(top + 1)], repeat=len(tree) + 1)
    found = [tuple((mark, tick) for mark, tick in enumerate(row) if tick is not None) for row in choices]
    return [pushes for pushes in found if pushes]


def any_values():
    """Return values of every kind that the document calls any value; lists and dicts are new ones."""
    deep = 0
    for _ in range(19):
        deep = (deep,)
    deep_list = []
    for _ in range(18):
        deep_list = [deep_list]
    return [
        None, True, False, 0, 1, -1, 12, LAST_TICK, LIMIT, 10 ** 40 - 1, 1 - 10 ** 40,
        "", "0@1", "a\nb", "x" * 2000, "01", "table", "None",
        (), (0,), (None,), (True,), ((),), ([],), ({},), ("",), (0, 1, 2), (None, "tree"), (1, "row"), ("0", "1"),
        [], [0], [0, 1, 2], [(0, 1)], [[0, 1]], [((0, 1),), (0,)], {}, {"a": [1, (2, [3])]}, {"0": (0, 1)},
        deep, (deep, deep), deep_list, (0,) * 1000, ((0, 1),) * 300, [0] * 1000, tuple(range(1000)),
        BadPushes(0), (BadPushes(None),), NoTable((0, 1)), ((TooLarge(12), 0),), ((0, TooLarge(12)),),
        (None, None), ((None, None), (None, None)), (((), ()), ()), ((), ()), ((), (0,)), (((0, 0),), ()),
    ]


def check_call(case, function, *arguments):
    """Return the result of a call; an equal call returns an equal one, and no argument changes."""
    before = repr(arguments)
    twin = copy.deepcopy(arguments)
    found = function(*arguments)
    again = function(*twin)
    case.assertEqual(repr(found), repr(again), (function, arguments))
    case.assertEqual(repr(arguments), before)
    case.assertEqual(repr(twin), before)
    return found


def check_bool(case, expected, function, *arguments):
    """The call returns this bool itself."""
    case.assertIs(check_call(case, function, *arguments), expected, (function, arguments))


def check_raises(case, error, field, expected, function, *arguments):
    """The call raises exactly this error, with the expected field; no argument changes."""
    before = repr(arguments)
    for _ in range(2):
        with case.assertRaises(error) as caught:
            function(*arguments)
        case.assertIs(type(caught.exception), error)
        case.assertEqual(repr(getattr(caught.exception, field)), repr(expected), (function, arguments))
    case.assertEqual(repr(arguments), before)


def check_same_value(case, error, value, function, *arguments):
    """The call raises exactly this error, whose value is the very one that was passed; no argument changes."""
    before = repr(arguments)
    for _ in range(2):
        with case.assertRaises(error) as caught:
            function(*arguments)
        case.assertIs(type(caught.exception), error)
        case.assertIs(caught.exception.value, value)
    case.assertEqual(repr(arguments), before)


def check_interface(case, module, parameters):
    """The file defines these functions, with these parameters."""
    for name, expected in parameters.items():
        with case.subTest(name=name):
            function = getattr(module, name)
            case.assertTrue(inspect.isfunction(function))
            case.assertEqual(function.__module__, module.__name__)
            case.assertEqual(list(inspect.signature(function).parameters), expected)
