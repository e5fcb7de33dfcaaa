"""Tests of marktopples.fields: the class Field of points [14] to [16], and what [2] (f) and [3] say of it."""

import inspect
import random
import unittest
from unittest import mock

from marktopples import bounds, fields
from marktopples.errors import (
    BadLength, BadText, BadTick, BadTree, Busy, FallError, NoMark, NoPush, NoRow, NothingToUndo, NoVersion,
    TooManyEdits, TooManyPushes,
)
from marktopples.falls import needed_pushes
from marktopples.fields import Field, WatchedField
from marktopples.texts import field_text, parse_field
from marktopples.trees import tree_error
from tests.fieldsamples import PlainField, all_of, check_field, check_like_new, check_refused, do_edit, random_edit
from tests.samples import LAST_TICK, LIMIT, LONGEST, SEVERAL, T, any_values, chain, check_raises, random_tree, star

METHODS = {
    "push": ["mark", "tick"], "pull": ["index"], "stretch": ["mark", "length"], "undo": [],
    "attempt": ["edits", "watch"], "state": ["version"], "fall_of": ["mark", "version"], "needed": ["version"],
    "walk": [], "edits": [],
}


def full_field():
    """Return a field with 60 edits and two pushes."""
    field = Field(T)
    field.push(0, 1)
    field.push(2, 0)
    while len(field) < 60:
        field.stretch(1, 2 + len(field) % 3)
    return field


def field_with_pushes(tree, many):
    field = Field(tree)
    for index in range(many):
        field.push(index % (len(tree) + 1), index)
    return field


class ExampleTest(unittest.TestCase):

    def test_field(self):
        field = Field(T)
        found = [field.tree == T, field.pushes, field.falls, field.finish, len(field)]
        self.assertEqual(repr(found), "[True, (), (None, None, None), None, 0]")
        self.assertEqual(repr([Field.MOST_EDITS, Field(()).falls]), "[60, (None,)]")

    def test_edits(self):
        field = Field(T)
        found = [field.push(0, 1), field.falls, field.push(2, 0), field.falls, field.stretch(1, 9), field.falls,
                 field.pull(0), field.falls]
        self.assertEqual(repr(found), "[1, (1, 3, 6), 2, (1, 3, 0), 3, (1, 3, 0), 4, (12, 3, 0)]")

    def test_undo(self):
        field = Field(T)
        self.assertEqual(repr([field.push(1, 4), field.undo(), field.pushes]), "[1, 0, ()]")

    def test_state(self):
        field = Field(())
        found = [field.push(0, 3), field.state(), field.state(version=0)]
        self.assertEqual(repr(found), "[1, ((), ((0, 3),)), ((), ())]")

    def test_fall_of_and_needed(self):
        field = Field(T)
        found = [field.push(0, 1), field.push(1, 3), field.fall_of(2), field.needed(), field.fall_of(2, version=0)]
        self.assertEqual(repr(found), "[1, 2, 6, ((0, 1),), None]")

    def test_walk(self):
        field = Field(T)
        self.assertEqual(repr([field.push(1, 4), list(field.walk())]), "[1, [(4, (1,)), (6, (0,)), (7, (2,))]]")

    def test_list_of_edits(self):
        field = Field(())
        self.assertEqual(repr([field.push(0, 3), field.edits()]), "[1, (('push', 0, 3),)]")

    def test_read(self):
        field = Field.read('0:2 1:3; 0@1 2@0')
        found = [field.tree, field.pushes, field.falls, len(field)]
        self.assertEqual(repr(found), "[((0, 2), (1, 3)), ((0, 1), (2, 0)), (1, 3, 0), 0]")

    def test_str_and_equal(self):
        one = Field(T)
        other = Field.read('0:2 1:3; 0@1')
        found = [str(other), one == other, one.push(0, 1), one.push(1, 3), one == other]
        self.assertEqual(repr(found), "['3 marks, 1 pushes, finish 6, 0 edits', False, 1, 2, True]")


class InterfaceTest(unittest.TestCase):

    def test_classes_are_defined_in_the_file(self):
        for name, parameters in [("Field", ["tree"]), ("WatchedField", ["tree", "marks"])]:
            found = getattr(fields, name)
            self.assertTrue(inspect.isclass(found))
            self.assertEqual(found.__module__, fields.__name__)
            self.assertEqual(list(inspect.signature(found).parameters), parameters)

    def test_methods_stand_in_the_class(self):
        for name, parameters in METHODS.items():
            with self.subTest(name=name):
                self.assertIn(name, vars(Field))
                self.assertEqual(list(inspect.signature(getattr(Field, name)).parameters), ["self", *parameters])
        for name in ("read", "__len__", "__str__", "__eq__"):
            self.assertIn(name, vars(Field))

    def test_parameters_behind_a_star(self):
        for name, parameter in [("attempt", "watch"), ("state", "version"), ("fall_of", "version"),
                                ("needed", "version")]:
            found = inspect.signature(getattr(Field, name)).parameters[parameter]
            self.assertIs(found.kind, inspect.Parameter.KEYWORD_ONLY)
            self.assertIsNone(found.default)

    def test_most_edits(self):
        self.assertEqual(Field.MOST_EDITS, bounds.MAX_EDITS)
        self.assertEqual([Field(T).MOST_EDITS, WatchedField.MOST_EDITS], [60, 60])

    def test_walk_is_a_generator(self):
        self.assertTrue(inspect.isgeneratorfunction(Field.walk))

    def test_attributes_are_only_read(self):
        field = field_with_pushes(T, 2)
        before = all_of(field)
        for name in ("tree", "pushes", "falls", "finish"):
            with self.assertRaises(AttributeError):
                setattr(field, name, getattr(field, name))
        self.assertEqual(all_of(field), before)


class NewFieldTest(unittest.TestCase):

    def test_trees(self):
        for tree in SEVERAL:
            field = Field(tree)
            check_field(self, field, PlainField(tree))
            self.assertIs(field.tree, tree)
            self.assertEqual(field.falls, (None,) * (len(tree) + 1))
            self.assertEqual([field.pushes, field.finish, field.needed(), field.edits()], [(), None, (), ()])
            self.assertEqual(str(field), f"{len(tree) + 1} marks, 0 pushes, finish None, 0 edits")

    def test_any_values(self):
        for value in any_values():
            with self.subTest(value=value):
                if tree_error(value) is None:
                    check_field(self, Field(value), PlainField(value))
                else:
                    check_raises(self, BadTree, "error", tree_error(value), Field, value)

    def test_wrong_rows(self):
        for tree in [((0, 2), (2, 3)), ((0, 0),), ((0, 2), (True, 3)), ((0, True),), [(0, 2)], ([0, 2],), chain(13)]:
            check_raises(self, BadTree, "error", tree_error(tree), Field, tree)

    def test_rows_that_change_later(self):
        rows = [(0, 2), (1, 3)]
        field = Field(tuple(rows))
        rows[0] = (0, 9)
        self.assertEqual(field.tree, T)


class RandomEditsTest(unittest.TestCase):

    def test_edits_and_undos(self):
        """Guarantee (f)."""
        chance = random.Random(101)
        for _ in range(40):
            tree = random_tree(chance, chance.randint(1, 12), chance.choice([1, 5, LONGEST]))
            field, plain = Field(tree), PlainField(tree)
            for _ in range(chance.randint(1, 30)):
                if plain.edits and chance.randint(1, 3) == 1:
                    plain.edits.pop()
                    self.assertEqual(field.undo(), len(plain.edits))
                else:
                    edit = random_edit(chance, plain)
                    plain.edits.append(edit)
                    self.assertEqual(do_edit(field, edit), len(plain.edits))
            check_field(self, field, plain)

    def test_attributes_after_each_edit_and_undo(self):
        chance = random.Random(102)
        for tree in SEVERAL:
            field, plain = Field(tree), PlainField(tree)
            for _ in range(60):
                edit = random_edit(chance, plain)
                plain.edits.append(edit)
                do_edit(field, edit)
                self.assertEqual([field.tree, field.pushes], list(plain.state()))
                self.assertEqual(field.falls, plain.falls())
                self.assertEqual(field.finish, max(plain.falls()) if field.pushes else None)
            check_field(self, field, plain)
            while plain.edits:
                plain.edits.pop()
                field.undo()
                self.assertEqual([field.tree, field.pushes], list(plain.state()))
                self.assertEqual(field.falls, plain.falls())
                if len(plain.edits) % 10 == 0:
                    check_like_new(self, field)
            check_field(self, field, PlainField(tree))

    def test_fields_do_not_share_anything(self):
        one, other = Field(T), Field(T)
        one.push(0, 1)
        one.stretch(1, 9)
        check_field(self, other, PlainField(T))
        self.assertEqual(T, ((0, 2), (1, 3)))

    def test_results_do_not_change_later(self):
        field = field_with_pushes(T, 2)
        told = [field.tree, field.pushes, field.falls, field.state(), field.needed(), field.edits()]
        before = repr(told)
        field.stretch(2, 9)
        field.pull(0)
        self.assertEqual(repr(told), before)


class PushTest(unittest.TestCase):

    def test_bounds_of_mark_and_tick(self):
        for tree in SEVERAL:
            marks = len(tree) + 1
            field, plain = Field(tree), PlainField(tree)
            for mark in {0, marks - 1}:
                for tick in (0, 1, LAST_TICK - 1, LAST_TICK):
                    plain.edits.append(("push", mark, tick))
                    self.assertEqual(field.push(mark, tick), len(plain.edits))
            check_field(self, field, plain)
            for mark in (-1, marks, 12, 10 ** 40 - 1):
                check_refused(self, field, NoMark, {"value": mark}, field.push, mark, 0)
            for tick in (-1, LAST_TICK + 1, LIMIT, 10 ** 40 - 1, 1 - 10 ** 40):
                check_refused(self, field, BadTick, {"value": tick}, field.push, 0, tick)

    def test_equal_pushes(self):
        field = Field(T)
        for version in range(1, 21):
            self.assertEqual(field.push(1, 4), version)
        self.assertEqual(field.pushes, ((1, 4),) * 20)

    def test_other_kinds(self):
        field = field_with_pushes(T, 2)
        for value in any_values():
            with self.subTest(value=value):
                if not (type(value) is int and 0 <= value <= 2):
                    check_refused(self, field, NoMark, {"value": value}, field.push, value, 0)
                if not (type(value) is int and 0 <= value <= LAST_TICK):
                    check_refused(self, field, BadTick, {"value": value}, field.push, 0, value)

    def test_bools(self):
        field = Field(T)
        check_refused(self, field, NoMark, {"value": True}, field.push, True, 1)
        self.assertEqual(field.push(1, 1), 1)
        check_refused(self, field, NoMark, {"value": True}, field.push, True, 1)
        check_refused(self, field, BadTick, {"value": True}, field.push, 1, True)
        check_refused(self, field, BadTick, {"value": False}, field.push, 1, False)
        check_refused(self, field, NoMark, {"value": False}, field.push, False, 0)

    def test_twenty_and_twenty_one_pushes(self):
        field = field_with_pushes(T, 20)
        self.assertEqual(len(field.pushes), 20)
        check_refused(self, field, TooManyPushes, {}, field.push, 0, 0)
        self.assertEqual(field.pull(7), 21)
        self.assertEqual(field.push(0, 0), 22)
        check_refused(self, field, TooManyPushes, {}, field.push, 0, 0)

    def test_order_of_the_errors(self):
        field = field_with_pushes(T, 20)
        check_refused(self, field, NoMark, {"value": 3}, field.push, 3, -1)
        check_refused(self, field, NoMark, {"value": -1}, field.push, -1, 0)
        check_refused(self, field, BadTick, {"value": -1}, field.push, 0, -1)
        check_refused(self, field, TooManyPushes, {}, field.push, 2, LAST_TICK)


class PullTest(unittest.TestCase):

    def test_each_index(self):
        for index in range(5):
            field = field_with_pushes(chain(12), 5)
            pushes = field.pushes
            self.assertEqual(field.pull(index), 6)
            self.assertEqual(field.pushes, pushes[:index] + pushes[index + 1:])
            check_like_new(self, field)

    def test_down_to_no_push(self):
        field = field_with_pushes(T, 2)
        field.pull(1)
        field.pull(0)
        self.assertEqual([field.pushes, field.falls, field.finish], [(), (None,) * 3, None])
        check_like_new(self, field)

    def test_wrong_indexes(self):
        for many in (0, 1, 3, 20):
            field = field_with_pushes(T, many)
            for index in (-1, -many, many, many + 1, 10 ** 40 - 1):
                if not 0 <= index < many:
                    check_refused(self, field, NoPush, {"value": index}, field.pull, index)

    def test_other_kinds(self):
        field = field_with_pushes(T, 3)
        for value in any_values():
            if not (type(value) is int and 0 <= value <= 2):
                check_refused(self, field, NoPush, {"value": value}, field.pull, value)
        self.assertEqual(field.pull(1), 4)
        check_refused(self, field, NoPush, {"value": True}, field.pull, True)
        check_refused(self, field, NoPush, {"value": False}, field.pull, False)

    def test_one_of_equal_pushes(self):
        field = Field(T)
        for tick in (3, 5, 3):
            field.push(1, tick)
        field.pull(2)
        self.assertEqual(field.pushes, ((1, 3), (1, 5)))


class StretchTest(unittest.TestCase):

    def test_each_row_and_the_bounds_of_the_length(self):
        for tree in SEVERAL[1:]:
            field, plain = field_with_pushes(tree, 1), PlainField(tree)
            plain.edits.append(("push", 0, 0))
            for mark in range(1, len(tree) + 1):
                for length in (1, LONGEST):
                    plain.edits.append(("stretch", mark, length))
                    self.assertEqual(field.stretch(mark, length), len(plain.edits))
                    self.assertEqual(field.tree, plain.state()[0])
            check_field(self, field, plain)
            for length in (0, -1, LONGEST + 1, 10 ** 40 - 1):
                check_refused(self, field, BadLength, {"value": length}, field.stretch, 1, length)

    def test_marks_without_a_row(self):
        for tree in SEVERAL:
            field = Field(tree)
            for mark in (0, -1, len(tree) + 1, 12, 10 ** 40 - 1):
                check_refused(self, field, NoRow, {"value": mark}, field.stretch, mark, 5)

    def test_the_same_length_is_an_edit(self):
        field = Field(T)
        self.assertEqual([field.stretch(1, 2), field.stretch(1, 2), field.tree], [1, 2, T])
        self.assertEqual(field.undo(), 1)

    def test_other_kinds(self):
        field = field_with_pushes(T, 2)
        for value in any_values():
            with self.subTest(value=value):
                if not (type(value) is int and 1 <= value <= 2):
                    check_refused(self, field, NoRow, {"value": value}, field.stretch, value, 5)
                if not (type(value) is int and 1 <= value <= LONGEST):
                    check_refused(self, field, BadLength, {"value": value}, field.stretch, 1, value)
        self.assertEqual(field.stretch(1, 1), 3)
        check_refused(self, field, NoRow, {"value": True}, field.stretch, True, 1)
        check_refused(self, field, BadLength, {"value": True}, field.stretch, 1, True)

    def test_order_of_the_errors(self):
        field = Field(T)
        check_refused(self, field, NoRow, {"value": 0}, field.stretch, 0, 0)
        check_refused(self, field, NoRow, {"value": 3}, field.stretch, 3, None)
        check_refused(self, field, BadLength, {"value": 0}, field.stretch, 2, 0)


class UndoAndBoundTest(unittest.TestCase):

    def test_sixty_edits(self):
        field = full_field()
        self.assertEqual(len(field), 60)
        for name, values in [("push", (0, 0)), ("pull", (0,)), ("stretch", (1, 1))]:
            check_refused(self, field, TooManyEdits, {}, getattr(field, name), *values)
        self.assertEqual(field.undo(), 59)
        self.assertEqual(field.push(1, 1), 60)
        check_refused(self, field, TooManyEdits, {}, field.push, 1, 1)

    def test_too_many_edits_come_ahead_of_all_others(self):
        field = field_with_pushes(T, 20)
        for length in range(1, 41):
            field.stretch(1, length)
        self.assertEqual([len(field), len(field.pushes)], [60, 20])
        for value in any_values():
            check_refused(self, field, TooManyEdits, {}, field.push, value, value)
            check_refused(self, field, TooManyEdits, {}, field.pull, value)
            check_refused(self, field, TooManyEdits, {}, field.stretch, value, value)

    def test_down_to_the_first_state_and_once_more(self):
        for field in (full_field(), field_with_pushes(T, 20), Field(())):
            for version in range(len(field) - 1, -1, -1):
                self.assertEqual(field.undo(), version)
            check_refused(self, field, NothingToUndo, {}, field.undo)
            check_field(self, field, PlainField(field.tree))

    def test_undo_of_what_was_read(self):
        field = Field.read("0:2 1:3; 0@1 2@0")
        check_refused(self, field, NothingToUndo, {}, field.undo)
        field.pull(0)
        field.undo()
        self.assertEqual(field.state(), (T, ((0, 1), (2, 0))))
        check_refused(self, field, NothingToUndo, {}, field.undo)

    def test_an_edit_after_undos(self):
        field = Field(T)
        field.push(0, 1)
        field.push(1, 2)
        field.undo()
        self.assertEqual(field.stretch(1, 7), 2)
        self.assertEqual(field.edits(), (("push", 0, 1), ("stretch", 1, 7)))
        self.assertEqual(field.state(version=1), (T, ((0, 1),)))

    def test_bases_of_the_errors(self):
        field = Field(T)
        for act, base in [
            (lambda: field.push(9, 0), LookupError), (lambda: field.push(0, -1), FallError),
            (lambda: field.pull(0), LookupError), (lambda: field.stretch(0, 1), LookupError),
            (lambda: field.stretch(1, 0), FallError), (field.undo, FallError),
            (lambda: field.state(version=1), LookupError), (lambda: Field([]), FallError),
        ]:
            with self.assertRaises(base):
                act()

    def test_busy_is_not_raised_without_a_watch(self):
        field = Field(T)
        try:
            field.push(0, 1)
            field.attempt([("push", 1, 1)])
            field.undo()
        except Busy:
            self.fail("no watch runs")


class VersionTest(unittest.TestCase):

    def test_values_that_are_no_version(self):
        field = field_with_pushes(T, 3)
        wrong = [value for value in any_values() if not (value is None or type(value) is int and 0 <= value <= 3)]
        for value in wrong + [4, 5, -1, -3, True, False, 1.0]:
            with self.subTest(value=value):
                for act in (field.state, field.needed):
                    check_refused(self, field, NoVersion, {"value": value}, act, version=value)
                for mark in (0, 3, True, None):
                    check_refused(self, field, NoVersion, {"value": value}, field.fall_of, mark, version=value)

    def test_bools_beside_numbers(self):
        field = field_with_pushes(T, 3)
        for good, bad in ((1, True), (0, False)):
            told = field.state(version=good)
            check_refused(self, field, NoVersion, {"value": bad}, field.state, version=bad)
            self.assertEqual(field.state(version=good), told)

    def test_versions_that_do_not_stand_any_more(self):
        field = field_with_pushes(T, 3)
        field.undo()
        check_refused(self, field, NoVersion, {"value": 3}, field.state, version=3)
        self.assertEqual(field.state(version=2), field.state())

    def test_marks_of_fall_of(self):
        for field in (Field(T), field_with_pushes(T, 2)):
            for value in any_values() + [-1, 3, True, False]:
                if not (type(value) is int and 0 <= value <= 2):
                    for version in (None, 0, len(field)):
                        check_refused(self, field, NoMark, {"value": value}, field.fall_of, value, version=version)
            check_refused(self, field, NoMark, {"value": 3}, field.fall_of, 3)

    def test_needed_of_each_version(self):
        chance = random.Random(103)
        for tree in SEVERAL:
            field, plain = Field(tree), PlainField(tree)
            for _ in range(25):
                plain.edits.append(random_edit(chance, plain))
                do_edit(field, plain.edits[-1])
            for version in range(26):
                rows, pushes = plain.state(version)
                expected = needed_pushes(rows, plain.falls(version)) if pushes else ()
                self.assertEqual(field.needed(version=version), expected)
            self.assertEqual(field.needed(), field.needed(version=25))

    def test_falls_of_other_lengths(self):
        field = Field(T)
        field.push(0, 1)
        field.stretch(1, 9)
        self.assertEqual([field.fall_of(2, version=version) for version in (None, 0, 1, 2)], [13, None, 6, 13])


class WalkTest(unittest.TestCase):

    def test_all_falls(self):
        chance = random.Random(104)
        for tree in SEVERAL:
            field, plain = Field(tree), PlainField(tree)
            for _ in range(12):
                plain.edits.append(random_edit(chance, plain))
                do_edit(field, plain.edits[-1])
                before = all_of(field)
                found = list(field.walk())
                falls = plain.falls()
                if None in falls:
                    self.assertEqual(found, [])
                else:
                    self.assertEqual([tick for tick, _ in found], sorted(set(falls)))
                    for tick, marks in found:
                        self.assertEqual(marks, tuple(mark for mark, fall in enumerate(falls) if fall == tick))
                self.assertEqual(list(field.walk()), found)
                self.assertEqual(all_of(field), before)

    def test_marks_that_fall_at_the_same_tick(self):
        field = Field(star(12))
        field.push(0, 3)
        self.assertEqual(list(field.walk()), [(3, (0,)), (4, tuple(range(1, 12)))])

    def test_no_push(self):
        self.assertEqual(list(Field(T).walk()), [])
        self.assertEqual(list(Field(()).walk()), [])

    def test_one_after_another(self):
        field = field_with_pushes(T, 1)
        one, other = field.walk(), field.walk()
        self.assertEqual([next(one), next(one), next(other), next(one)],
                         [(0, (0,)), (2, (1,)), (0, (0,)), (5, (2,))])
        self.assertIsNone(next(one, None))


class ReadTest(unittest.TestCase):

    def test_there_and_back(self):
        chance = random.Random(105)
        for tree in SEVERAL:
            for many in (0, 1, 5, 20):
                pushes = tuple((chance.randint(0, len(tree)), chance.choice([0, 9, LAST_TICK])) for _ in range(many))
                field = Field.read(field_text(tree, pushes))
                self.assertIs(type(field), Field)
                check_field(self, field, PlainField(tree, pushes))

    def test_edits_of_what_was_read(self):
        chance = random.Random(106)
        for tree in SEVERAL:
            pushes = ((0, 3), (len(tree), 7))
            field, plain = Field.read(field_text(tree, pushes)), PlainField(tree, pushes)
            for _ in range(15):
                plain.edits.append(random_edit(chance, plain))
                do_edit(field, plain.edits[-1])
            check_field(self, field, plain)
            for _ in range(15):
                plain.edits.pop()
                field.undo()
            check_field(self, field, plain)

    def test_bad_texts(self):
        texts = ["", "0:2", "0:2 ;", "0:2; 0@1 ", "0:2 1:3; 0@1 3@0", "0:02;", ";" + " 0@0" * 21]
        for value in any_values() + texts:
            with self.subTest(value=value):
                with self.assertRaises(BadText) as caught:
                    parse_field(value)
                check_raises(self, BadText, "index", caught.exception.index, Field.read, value)


class EqualTest(unittest.TestCase):

    def test_equal_trees_and_falls(self):
        one = Field.read("0:2 1:3; 0@1 1@3 2@9")
        other = Field.read("0:2 1:3; 0@1")
        self.assertIs(one == other, True)
        self.assertIs(one != other, False)
        other.push(1, 3)
        other.undo()
        self.assertIs(one == other, True)

    def test_other_trees_and_other_falls(self):
        one = Field.read("0:2 1:3; 0@1")
        for text in ["0:2 1:3;", "0:2 1:3; 0@2", "0:2 1:4; 0@1", "0:2; 0@1", "0:2 0:5; 0@1", "0:2 1:3; 0@1 2@5"]:
            other = Field.read(text)
            self.assertIs(one == other, False)
            self.assertIs(other == one, False)
            self.assertIs(one != other, True)

    def test_equal_falls_of_other_trees(self):
        self.assertIs(Field.read("0:2 1:3; 0@1") == Field.read("0:2 0:5; 0@1"), False)
        self.assertIs(Field(T) == Field(((0, 2), (1, 4))), False)
        self.assertIs(Field(T) == Field(T), True)

    def test_fields_of_both_classes(self):
        plain, watched = Field(T), WatchedField(T, (0, 2))
        self.assertTrue(plain == watched and watched == plain)
        self.assertTrue(WatchedField(T, ()) == watched)
        watched.push(0, 1)
        self.assertFalse(plain == watched or watched == plain)
        self.assertTrue(plain != watched and watched != plain)
        plain.push(0, 1)
        plain.push(1, 3)
        self.assertTrue(plain == watched and watched == plain)

    def test_other_kinds(self):
        field = field_with_pushes(T, 2)
        for other in any_values() + [T, field.state(), field.falls, str(field), object()]:
            self.assertIs(field == other, False)
            self.assertIs(other == field, False)
            self.assertIs(field != other, True)
        self.assertIs(field == mock.ANY, False)

    def test_len_and_str(self):
        field = Field(chain(12, LONGEST))
        self.assertEqual(str(field), "12 marks, 0 pushes, finish None, 0 edits")
        field.push(0, LAST_TICK)
        self.assertEqual([str(field), len(field)], ["12 marks, 1 pushes, finish 1011000000, 1 edits", 1])
        field.push(11, LAST_TICK)
        field.undo()
        field.stretch(1, 1)
        self.assertEqual([str(field), len(field)], ["12 marks, 1 pushes, finish 1010000001, 2 edits", 2])
        self.assertEqual(str(Field(())), "1 marks, 0 pushes, finish None, 0 edits")


if __name__ == "__main__":
    unittest.main()
