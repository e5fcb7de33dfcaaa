"""Tests of WatchedField of marktopples.fields: point [17], and what points [2] (f) and [3] say of it."""

import random
import unittest

from marktopples.cameras import Camera
from marktopples.errors import BadMarks, BadTable, BadTree, NoMark, Rejected
from marktopples.fields import Field, WatchedField
from marktopples.trees import tree_error
from tests.fieldsamples import PlainField, all_of, check_field, check_refused, do_edit, random_edit
from tests.samples import (
    LAST_TICK, LIMIT, LONGEST, SEVERAL, T, any_values, chain, check_raises, check_same_value, plain_distances,
    random_tree,
)

SEVERAL_MARKS = [(), (0,), (11,), (0, 2), (1, 2, 3), (0, 5, 11), tuple(range(12))]


def plain_known(tree, falls, marks):
    """Return the ranges in the words of the document."""
    if None in falls:
        return None
    far = plain_distances(tree)
    seen = [(mark, falls[mark]) for mark in marks if mark < len(falls)]
    return tuple(
        (max([0] + [tick - far[other][mark] for other, tick in seen]),
         min([tick + far[other][mark] for other, tick in seen], default=None))
        for mark in range(len(falls))
    )


class Case(unittest.TestCase):

    def check_known(self, field):
        expected = plain_known(field.tree, field.falls, field.marks)
        self.assertEqual(repr(field.known), repr(expected))
        if field.pushes:
            seen = tuple((mark, field.falls[mark]) for mark in field.marks if mark < len(field.falls))
            self.assertEqual(field.shot(field.falls), seen)
            for (low, high), fall in zip(field.known, field.falls):
                self.assertTrue(low <= fall and (high is None or fall <= high))


class ExampleTest(Case):

    def test_known(self):
        field = WatchedField(T, (0, 2))
        found = [field.known, field.push(0, 1), field.known, field.push(2, 4), field.known]
        self.assertEqual(repr(found), "[None, 1, ((1, 1), (3, 3), (6, 6)), 2, ((1, 1), (1, 3), (4, 4))]")


class NewTest(Case):

    def test_it_is_a_field_and_a_camera(self):
        field = WatchedField(T, (0, 2, 9))
        self.assertTrue(isinstance(field, Field) and isinstance(field, Camera))
        self.assertTrue(issubclass(WatchedField, Field) and issubclass(WatchedField, Camera))
        self.assertFalse(issubclass(Field, Camera) or issubclass(Camera, Field))
        self.assertEqual(field.marks, (0, 2, 9))
        self.assertIn("known", vars(WatchedField))

    def test_any_value_as_a_tree(self):
        for value in any_values():
            error = tree_error(value)
            if error is None:
                check_field(self, WatchedField(value, (0,)), PlainField(value))
            else:
                check_raises(self, BadTree, "error", error, WatchedField, value, (0,))

    def test_any_value_as_marks(self):
        for value in any_values() + [(1, 0), (0, 0), (12,), (-1,), (True,), [0], tuple(range(13))]:
            is_wrong = not isinstance(value, tuple) or any(
                type(mark) is not int or not 0 <= mark <= 11 for mark in value
            ) or list(value) != sorted(set(value))
            if is_wrong:
                check_same_value(self, BadMarks, value, WatchedField, T, value)
            else:
                self.assertEqual(WatchedField(T, value).marks, value)

    def test_a_bad_tree_comes_ahead_of_bad_marks(self):
        for value in any_values():
            check_raises(self, BadTree, "error", (0, "row"), WatchedField, ((0, 0),), value)
            check_raises(self, BadTree, "error", (None, "tree"), WatchedField, None, value)

    def test_attributes_are_only_read(self):
        field = WatchedField(T, (0, 2))
        field.push(0, 1)
        before = all_of(field)
        for name in ("tree", "pushes", "falls", "finish", "marks", "known"):
            with self.assertRaises(AttributeError):
                setattr(field, name, getattr(field, name))
        self.assertEqual(all_of(field), before)

    def test_new_fields(self):
        for tree in SEVERAL:
            for marks in SEVERAL_MARKS:
                field = WatchedField(tree, marks)
                check_field(self, field, PlainField(tree))
                self.assertIsNone(field.known)


class KnownTest(Case):

    def test_after_each_edit_and_undo(self):
        chance = random.Random(121)
        for marks in SEVERAL_MARKS:
            for tree in SEVERAL:
                field, plain = WatchedField(tree, marks), PlainField(tree)
                for _ in range(20):
                    if plain.edits and chance.randint(1, 3) == 1:
                        plain.edits.pop()
                        field.undo()
                    else:
                        plain.edits.append(random_edit(chance, plain))
                        do_edit(field, plain.edits[-1])
                    self.check_known(field)
                check_field(self, field, plain)

    def test_after_batches(self):
        field = WatchedField(T, (0, 2))
        field.attempt([("push", 0, 1), ("push", 2, 4)])
        self.assertEqual(field.known, ((1, 1), (1, 3), (4, 4)))
        check_refused(self, field, Rejected, {"index": 1}, field.attempt, [("stretch", 1, 9), ("pull", 9)])
        self.check_known(field)
        field.attempt([("pull", 0), ("pull", 0)])
        self.assertIsNone(field.known)
        field.undo()
        self.check_known(field)

    def test_after_a_watch_that_raises(self):
        field = WatchedField(T, (0, 2))
        field.push(0, 1)
        before = all_of(field)

        def watch(given):
            self.check_known(given)
            raise KeyboardInterrupt()

        with self.assertRaises(KeyboardInterrupt):
            field.attempt([("push", 2, 0)], watch=watch)
        self.assertEqual(all_of(field), before)

    def test_no_mark_and_marks_that_the_tree_does_not_have(self):
        for marks in ((), (3,), (5, 11)):
            field = WatchedField(T, marks)
            field.push(1, 4)
            self.assertEqual(field.known, ((0, None),) * 3)
            self.assertEqual(field.shot(field.falls), ())
        field = WatchedField(T, (2, 3, 11))
        field.push(2, 9)
        self.assertEqual(field.known, ((4, 14), (6, 12), (9, 9)))

    def test_numbers_above_the_last_tick(self):
        tree = chain(12, LONGEST)
        field = WatchedField(tree, (11,))
        field.push(0, LAST_TICK)
        self.assertEqual(field.falls[11], LAST_TICK + 11 * LONGEST)
        self.assertEqual(field.known[0], (LAST_TICK, LAST_TICK + 22 * LONGEST))
        self.check_known(field)
        for marks in SEVERAL_MARKS:
            field = WatchedField(tree, marks)
            for mark in (11, 5, 0):
                field.push(mark, LAST_TICK)
                self.check_known(field)

    def test_random_fields(self):
        chance = random.Random(122)
        for _ in range(100):
            tree = random_tree(chance, chance.randint(1, 12), 9)
            marks = tuple(mark for mark in range(12) if chance.randint(0, 2) == 0)
            field = WatchedField(tree, marks)
            for _ in range(chance.randint(1, 6)):
                field.push(chance.randint(0, len(tree)), chance.randint(0, 30))
            self.check_known(field)


class ShotTest(Case):

    def test_as_on_any_camera(self):
        for marks in SEVERAL_MARKS:
            field, camera = WatchedField(T, marks), Camera(marks)
            for table in [(7,), (1, 3, 0), tuple(range(12)), (LIMIT,) * 12]:
                self.assertEqual(field.shot(table), camera.shot(table))
            for table in [(), (0,) * 13, [1, 3, 0], (True,), (-1,), (LIMIT + 1,), None, field.falls]:
                check_same_value(self, BadTable, table, field.shot, table)

    def test_within_a_watch(self):
        field = WatchedField(T, (0, 2))
        told = []

        def watch(given):
            self.check_known(given)
            check_same_value(self, BadTable, None, given.shot, None)
            told.append((given.shot((4, 5, 6)), given.shot(given.falls), given.known))

        self.assertEqual(field.attempt([("push", 0, 1), ("push", 2, 4)], watch=watch), 2)
        self.assertEqual(told, [
            (((0, 4), (2, 6)), ((0, 1), (2, 6)), ((1, 1), (3, 3), (6, 6))),
            (((0, 4), (2, 6)), ((0, 1), (2, 4)), ((1, 1), (1, 3), (4, 4))),
        ])


class AsAFieldTest(Case):

    def test_len_str_and_errors(self):
        field = WatchedField(T, (0, 2))
        field.push(0, 1)
        self.assertEqual([len(field), str(field)], [1, "3 marks, 1 pushes, finish 6, 1 edits"])
        check_refused(self, field, NoMark, {"value": 3}, field.push, 3, 0)
        self.assertEqual(WatchedField.MOST_EDITS, 60)

    def test_equal(self):
        one, other = WatchedField(T, (0,)), WatchedField(T, (1, 2))
        self.assertTrue(one == other and one == Field(T))
        one.push(0, 1)
        self.assertFalse(one == other or one == Camera((0,)) or Camera((0,)) == one)


if __name__ == "__main__":
    unittest.main()
