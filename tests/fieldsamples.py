"""A plain field to compare with, and checks that the tests of fields share."""

from marktopples.fields import Field
from tests.samples import LAST_TICK, LONGEST, plain_falls

QUERIES = ("tree", "pushes", "falls", "finish")


class PlainField:
    """A field in the words of the document: all edits from the start are done again for each question."""

    def __init__(self, tree, pushes=()):
        self.start = (tree, pushes)
        self.edits = []

    def state(self, version=None):
        tree, pushes = self.start
        rows, found = list(tree), list(pushes)
        for name, *values in self.edits[:version]:
            if name == "push":
                found.append(tuple(values))
            elif name == "pull":
                del found[values[0]]
            else:
                rows[values[0] - 1] = (rows[values[0] - 1][0], values[1])
        return (tuple(rows), tuple(found))

    def falls(self, version=None):
        tree, pushes = self.state(version)
        return plain_falls(tree, pushes) if pushes else (None,) * (len(tree) + 1)


def random_edit(chance, plain):
    """Return an edit that the field accepts as long as it accepts edits at all."""
    tree, pushes = plain.state()
    names = ["push"] * (len(pushes) < 20) + ["pull"] * (len(pushes) > 0) + ["stretch"] * (len(tree) > 0)
    name = chance.choice(names)
    if name == "push":
        return (name, chance.randint(0, len(tree)), chance.choice([0, 1, chance.randint(0, 30), LAST_TICK]))
    if name == "pull":
        return (name, chance.randrange(len(pushes)))
    return (name, chance.randint(1, len(tree)), chance.choice([1, chance.randint(1, 30), LONGEST]))


def do_edit(field, edit):
    """Do an edit that is given as a tuple of its name and values."""
    return getattr(field, edit[0])(*edit[1:])


def all_of(field):
    """Return all that a field tells: its attributes, queries with each version, edits, len and str."""
    marks = range(len(field.tree) + 1)
    versions = [None, *range(len(field) + 1)]
    told = [getattr(field, name) for name in QUERIES]
    told += [field.state(version=version) for version in versions]
    told += [field.needed(version=version) for version in versions]
    told += [field.fall_of(mark, version=version) for mark in marks for version in versions]
    told += [list(field.walk()), field.edits(), len(field), str(field)]
    if hasattr(field, "known"):
        told += [field.known, field.marks]
    return repr(told)


def check_field(case, field, plain):
    """The field tells what the plain one says, now and for each version."""
    tree, pushes = plain.state()
    falls = plain.falls()
    case.assertEqual(repr([field.tree, field.pushes, field.falls]), repr([tree, pushes, falls]))
    finish = max(falls) if pushes else None
    case.assertEqual(repr(field.finish), repr(finish))
    case.assertEqual(len(field), len(plain.edits))
    case.assertEqual(field.edits(), tuple(plain.edits))
    case.assertEqual(
        str(field), f"{len(tree) + 1} marks, {len(pushes)} pushes, finish {finish}, {len(plain.edits)} edits",
    )
    for version in [None, *range(len(plain.edits) + 1)]:
        case.assertEqual(repr(field.state(version=version)), repr(plain.state(version)))
        told = [field.fall_of(mark, version=version) for mark in range(len(tree) + 1)]
        case.assertEqual(repr(told), repr(list(plain.falls(version))))
    check_like_new(case, field)


def check_like_new(case, field):
    """The field tells what a new one with the same tree and pushes tells, apart from edits, len and str."""
    new = Field(field.tree)
    for mark, tick in field.pushes:
        new.push(mark, tick)
    for name in QUERIES:
        case.assertEqual(repr(getattr(field, name)), repr(getattr(new, name)))
    case.assertEqual(field.state(), new.state())
    case.assertEqual(field.needed(), new.needed())
    case.assertEqual(list(field.walk()), list(new.walk()))
    for mark in range(len(new.tree) + 1):
        case.assertEqual(field.fall_of(mark), new.fall_of(mark))
    case.assertTrue(field == new and new == field)


def check_refused(case, field, error, values, act, *arguments, **more):
    """The call raises exactly this error with these fields, the values themselves, and the field stays as it is."""
    before = all_of(field)
    for _ in range(2):
        with case.assertRaises(error) as caught:
            act(*arguments, **more)
        case.assertIs(type(caught.exception), error)
        for name, value in values.items():
            case.assertIs(getattr(caught.exception, name), value)
        case.assertEqual(all_of(field), before)
