"""Tests of Field.attempt of marktopples.fields: point [16], and what point [3] says of it."""

import copy
import random
import unittest

from marktopples.errors import (
    BadEdit, BadEdits, BadTick, Busy, FallError, NoMark, NoPush, NothingToUndo, Rejected, TooManyEdits,
)
from marktopples.fields import Field, WatchedField
from tests.fieldsamples import PlainField, all_of, check_field, check_refused, do_edit, random_edit
from tests.samples import LAST_TICK, SEVERAL, T, any_values

PUSHES = [("push", 0, 1), ("push", 2, 0), ("push", 1, 7)]


class OwnError(Exception):
    """An exception that a watch raises and that the package does not know."""


def random_batch(chance, plain, many):
    """Return edits that the field accepts one after another, and the plain field after them."""
    after = PlainField(*plain.start)
    after.edits = list(plain.edits)
    for _ in range(many):
        after.edits.append(random_edit(chance, after))
    return after.edits[len(plain.edits):], after


def pushed(tree=T, many=2):
    field = Field(tree)
    for index in range(many):
        field.push(0, index)
    return field


def no_watch(field):
    raise AssertionError("the watch was called")


class ExampleTest(unittest.TestCase):

    def test_rejected(self):
        field = Field(T)
        check_refused(self, field, Rejected, {"index": 1}, field.attempt, [("push", 0, 1), ("pull", 1)])


class BatchTest(unittest.TestCase):

    def test_zero_to_twenty_edits(self):
        chance = random.Random(111)
        for tree in SEVERAL:
            for many in (0, 1, 2, 7, 19, 20):
                for kind in (list, tuple):
                    field, plain = Field(tree), PlainField(tree)
                    for _ in range(2):
                        batch, plain = random_batch(chance, plain, many)
                        given = kind(batch)
                        before = copy.deepcopy(given)
                        self.assertEqual(field.attempt(given), many)
                        self.assertEqual(repr(given), repr(before))
                    check_field(self, field, plain)

    def test_each_edit_can_be_undone_by_itself(self):
        chance = random.Random(112)
        field = Field(T)
        batch, plain = random_batch(chance, PlainField(T), 12)
        field.attempt(batch)
        while plain.edits:
            plain.edits.pop()
            self.assertEqual(field.undo(), len(plain.edits))
            check_field(self, field, plain)

    def test_an_empty_batch(self):
        for empty in ([], ()):
            field = pushed()
            before = all_of(field)
            self.assertEqual(field.attempt(empty), 0)
            self.assertEqual(field.attempt(empty, watch=no_watch), 0)
            self.assertEqual(all_of(field), before)

    def test_sixty_edits_in_batches(self):
        field = Field(T)
        for _ in range(3):
            self.assertEqual(field.attempt([("stretch", 1, 5)] * 20), 20)
        self.assertEqual(len(field), 60)
        self.assertEqual(field.attempt([]), 0)
        check_refused(self, field, Rejected, {"index": 0}, field.attempt, [("stretch", 1, 5)])


class BadEditsTest(unittest.TestCase):

    def test_more_than_twenty_edits(self):
        field = pushed()
        for many in (21, 22, 900):
            for kind in (list, tuple):
                check_refused(self, field, BadEdits, {}, field.attempt, kind([("push", 0, 1)] * many))
                check_refused(self, field, BadEdits, {}, field.attempt, kind([None] * many))

    def test_other_kinds(self):
        field = pushed()
        for value in any_values() + [{}, {"push": 1}, "push", iter([]), range(0), {1}.difference([1]), b"", field]:
            if not isinstance(value, (list, tuple)):
                check_refused(self, field, BadEdits, {}, field.attempt, value)
                check_refused(self, field, BadEdits, {}, field.attempt, value, watch=no_watch)

    def test_lists_and_tuples_that_are_too_long_or_hold_no_edits(self):
        field = pushed()
        for value in any_values():
            if isinstance(value, (list, tuple)):
                if len(value) > 20:
                    check_refused(self, field, BadEdits, {}, field.attempt, value)
                elif value:
                    check_refused(self, field, BadEdit, {"index": 0}, field.attempt, value)
                else:
                    self.assertEqual(field.attempt(value), 0)


class BadEditTest(unittest.TestCase):

    def check_bad(self, item):
        field = pushed()
        for index in (0, 1, 2, 19):
            batch = [("push", 1, 1)] * index + [item]
            check_refused(self, field, BadEdit, {"index": index}, field.attempt, batch)
            check_refused(self, field, BadEdit, {"index": index}, field.attempt, tuple(batch), watch=no_watch)

    def test_any_values(self):
        for value in any_values():
            with self.subTest(value=value):
                self.check_bad(value)

    def test_any_value_as_a_name(self):
        for value in any_values():
            self.check_bad((value,))
            self.check_bad((value, 0))
            self.check_bad((value, 0, 1))

    def test_other_names(self):
        for name in ("undo", "attempt", "state", "read", "Push", "PUSH", "push ", " push", "", "pus", "pushh", "p"):
            for many in range(4):
                self.check_bad((name,) + (0,) * many)

    def test_other_numbers_of_values(self):
        for item in [("push",), ("push", 0), ("push", 0, 1, 2), ("pull",), ("pull", 0, 1), ("stretch",),
                     ("stretch", 1), ("stretch", 1, 2, 3), ("push", (0, 1)), ("stretch", [1, 2])]:
            self.check_bad(item)

    def test_lists_as_edits(self):
        for item in [["push", 0, 1], ["pull", 0], [("push", 0, 1)], (("push", 0, 1),), "push 0 1"]:
            self.check_bad(item)

    def test_first_of_several(self):
        field = pushed()
        check_refused(self, field, BadEdit, {"index": 1}, field.attempt, [("push", 0, 1), None, None])
        check_refused(self, field, BadEdit, {"index": 2}, field.attempt, [("push", 9, 1), ("pull", 77), ("push", 0)])

    def test_it_comes_ahead_of_rejected(self):
        field = pushed()
        for batch in ([("push", 9, 9), ("pull",)], [("pull", 7), ()]):
            check_refused(self, field, BadEdit, {"index": 1}, field.attempt, batch)

    def test_the_values_may_be_any_values(self):
        field = pushed()
        for value in any_values():
            if not (type(value) is int and value in (0, 1)):
                check_refused(self, field, Rejected, {"index": 0}, field.attempt, [("pull", value)])
                check_refused(self, field, Rejected, {"index": 0}, field.attempt, [("push", value, -1)])
                check_refused(self, field, Rejected, {"index": 0}, field.attempt, [("stretch", value, 0)])


class RejectedTest(unittest.TestCase):

    def test_each_place(self):
        for wrong in [("push", 3, 0), ("push", 0, -1), ("pull", 40), ("stretch", 0, 1), ("stretch", 1, 0),
                      ("push", True, 0), ("push", 0, LAST_TICK + 1), ("pull", None)]:
            for index in range(18):
                field = pushed()
                batch = [("push", 1, 1)] * index + [wrong, ("push", 0, 0)]
                check_refused(self, field, Rejected, {"index": index}, field.attempt, batch)
                check_refused(self, field, Rejected, {"index": index}, field.attempt, tuple(batch))

    def test_too_many_pushes(self):
        field = pushed(T, 15)
        check_refused(self, field, Rejected, {"index": 5}, field.attempt, [("push", 0, 0)] * 6)
        self.assertEqual(field.attempt([("push", 0, 0)] * 5), 5)
        check_refused(self, field, Rejected, {"index": 0}, field.attempt, [("push", 0, 0)])

    def test_too_many_edits(self):
        field = Field(T)
        for _ in range(50):
            field.stretch(1, 3)
        check_refused(self, field, Rejected, {"index": 10}, field.attempt, [("push", 0, 0)] * 11)
        check_refused(self, field, Rejected, {"index": 10}, field.attempt, [("push", 0, 0)] * 20)
        self.assertEqual(field.attempt([("push", 0, 0)] * 10), 10)
        check_refused(self, field, Rejected, {"index": 0}, field.attempt, [("push", 9, 0)])

    def test_all_edits_of_the_call_are_undone_and_no_others(self):
        field = pushed()
        before = all_of(field)
        batch = [("pull", 0), ("stretch", 2, 50), ("push", 1, 1), ("pull", 9)]
        check_refused(self, field, Rejected, {"index": 3}, field.attempt, batch)
        self.assertEqual(all_of(field), before)
        self.assertEqual(field.undo(), 1)

    def test_what_the_watch_saw_before(self):
        field = pushed()
        seen = []
        with self.assertRaises(Rejected) as caught:
            field.attempt(PUSHES + [("pull", 9)], watch=lambda given: seen.append(len(given)))
        self.assertEqual(caught.exception.index, 3)
        self.assertEqual(seen, [3, 4, 5])
        self.assertEqual([len(field), field.pushes], [2, ((0, 0), (0, 1))])

    def test_it_is_a_fall_error(self):
        with self.assertRaises(FallError):
            Field(T).attempt([("pull", 0)])


class WatchTest(unittest.TestCase):

    def test_what_a_watch_sees(self):
        chance = random.Random(113)
        for tree in SEVERAL:
            field = Field(tree)
            batch, _ = random_batch(chance, PlainField(tree), 9)
            plain = PlainField(tree)
            rest = list(batch)

            def watch(given):
                self.assertIs(given, field)
                plain.edits.append(rest.pop(0))
                check_field(self, given, plain)

            self.assertEqual(field.attempt(batch, watch=watch), 9)
            self.assertEqual(rest, [])

    def test_a_watch_that_stops(self):
        for stop in range(1, 4):
            for true in (True, 1, "x", [0], -1, object()):
                field = pushed()
                calls = []

                def watch(given):
                    calls.append(len(given))
                    return true if len(calls) == stop else 0

                self.assertEqual(field.attempt(PUSHES, watch=watch), stop)
                self.assertEqual(calls, [3, 4, 5][:stop])
                self.assertEqual(field.edits()[2:], tuple(PUSHES[:stop]))
                self.assertEqual(len(field), 2 + stop)
                self.assertEqual(field.push(0, 0), 3 + stop)

    def test_values_that_do_not_stop(self):
        for false in (None, False, 0, "", (), [], {}):
            field = pushed()
            self.assertEqual(field.attempt(PUSHES, watch=lambda given: false), 3)
            self.assertEqual(len(field), 5)

    def test_a_wrong_edit_behind_the_one_that_stops(self):
        field = pushed()
        self.assertEqual(field.attempt(PUSHES + [("pull", 99)], watch=lambda given: len(given) == 4), 2)
        self.assertEqual(field.edits()[2:], tuple(PUSHES[:2]))

    def test_exceptions_of_a_watch(self):
        raised = [
            OwnError("x"), ValueError("x"), LookupError(), TypeError(), StopIteration(), Busy(), Rejected(0),
            BadEdit(7), NoMark(True), NoPush(3), TooManyEdits(), NothingToUndo(), BadTick(-1), FallError(),
            BaseException("x"), KeyboardInterrupt(), SystemExit(3), GeneratorExit(), AttributeError(), MemoryError(),
        ]
        for error in raised:
            for call in (1, 2, 3):
                field = pushed()
                before = all_of(field)
                calls = []

                def watch(given):
                    calls.append(len(given))
                    if len(calls) == call:
                        raise error

                with self.assertRaises(BaseException) as caught:
                    field.attempt(PUSHES, watch=watch)
                self.assertIs(caught.exception, error)
                self.assertEqual(calls, [3, 4, 5][:call])
                self.assertEqual(all_of(field), before)
                self.assertEqual(field.push(0, 0), 3)
                self.assertEqual(field.attempt(PUSHES), 3)

    def test_a_result_that_cannot_be_tested(self):
        class Odd:
            def __bool__(self):
                raise OwnError()

        field = pushed()
        before = all_of(field)
        with self.assertRaises(OwnError):
            field.attempt(PUSHES, watch=lambda given: Odd())
        self.assertEqual(all_of(field), before)
        self.assertEqual(field.undo(), 1)

    def test_busy_in_a_watch(self):
        field = pushed()
        calls = []

        def watch(given):
            for act, values in [
                (given.push, (0, 0)), (given.push, (99, None)), (given.pull, (0,)), (given.pull, (99,)),
                (given.stretch, (1, 1)), (given.stretch, (0, 0)), (given.undo, ()), (given.attempt, ([],)),
                (given.attempt, (None,)), (given.attempt, ([None],)), (given.attempt, ([("push", 0, 0)],)),
            ]:
                check_refused(self, given, Busy, {}, act, *values)
                calls.append(act)

        self.assertEqual(field.attempt(PUSHES, watch=watch), 3)
        self.assertEqual(len(calls), 33)
        self.assertEqual([len(field), field.undo(), field.push(0, 1)], [5, 4, 5])

    def test_busy_comes_ahead_of_too_many_edits_and_nothing_to_undo(self):
        field = Field(T)
        for _ in range(59):
            field.stretch(1, 3)

        def watch(given):
            self.assertEqual(len(given), 60)
            check_refused(self, given, Busy, {}, given.push, 0, 0)
            check_refused(self, given, Busy, {}, given.attempt, [("push", 0, 0)] * 99)

        self.assertEqual(field.attempt([("push", 0, 0)], watch=watch), 1)
        check_refused(self, field, TooManyEdits, {}, field.push, 0, 0)

    def test_busy_that_a_watch_lets_through(self):
        field = pushed()
        before = all_of(field)
        with self.assertRaises(Busy):
            field.attempt(PUSHES, watch=lambda given: given.undo())
        self.assertEqual(all_of(field), before)
        self.assertEqual(field.undo(), 1)

    def test_queries_do_not_raise_busy(self):
        field = WatchedField(T, (0, 2))
        told = []
        field.attempt(PUSHES, watch=lambda given: told.append(all_of(given)))
        plain = WatchedField(T, (0, 2))
        for edit, text in zip(PUSHES, told):
            do_edit(plain, edit)
            self.assertEqual(text, all_of(plain))

    def test_a_watch_that_changes_the_list(self):
        for change in (list.clear, list.reverse, lambda xs: xs.append(None), lambda xs: xs.insert(0, ("pull", 99)),
                       lambda xs: xs.extend([("push", 0, 0)] * 30), list.pop):
            field = pushed()
            batch = list(PUSHES)

            def watch(given):
                if batch:
                    change(batch)

            self.assertEqual(field.attempt(batch, watch=watch), 3)
            self.assertEqual(field.edits()[2:], tuple(PUSHES))

    def test_arguments_behind_the_star(self):
        with self.assertRaises(TypeError):
            Field(T).attempt([], None)


class OtherFieldTest(unittest.TestCase):

    def test_edits_of_another_field_in_a_watch(self):
        field, other = pushed(), pushed()

        def watch(given):
            other.push(2, 5)
            other.pull(0)
            other.stretch(1, 9)
            other.undo()
            self.assertEqual(other.attempt([("push", 1, 1)]), 1)

        self.assertEqual(field.attempt(PUSHES[:2], watch=watch), 2)
        self.assertEqual(len(other), 8)
        self.assertEqual(len(field), 4)
        field.push(0, 0)
        other.push(0, 0)

    def test_attempt_on_another_field_within_a_watch(self):
        field, other = pushed(), pushed()
        seen = []

        def inner(given):
            self.assertIs(given, other)
            check_refused(self, field, Busy, {}, field.push, 0, 0)
            check_refused(self, other, Busy, {}, other.push, 0, 0)
            seen.append((len(field), len(other)))

        def watch(given):
            self.assertEqual(other.attempt(PUSHES[:2], watch=inner), 2)
            check_refused(self, field, Busy, {}, field.undo)
            self.assertGreater(other.push(0, 0), 2)

        self.assertEqual(field.attempt(PUSHES[:2], watch=watch), 2)
        self.assertEqual(seen, [(3, 3), (3, 4), (4, 6), (4, 7)])
        self.assertEqual([len(field), len(other)], [4, 8])
        self.assertEqual([field.push(0, 0), other.push(0, 0)], [5, 9])

    def test_an_inner_batch_that_fails(self):
        field, other = pushed(), pushed()
        before = all_of(other)

        def watch(given):
            check_refused(self, other, Rejected, {"index": 1}, other.attempt, [("push", 0, 0), ("pull", 99)])
            self.assertEqual(all_of(other), before)

        self.assertEqual(field.attempt(PUSHES, watch=watch), 3)
        self.assertEqual([len(field), len(other)], [5, 2])

    def test_an_inner_failure_that_is_let_through(self):
        field, other = pushed(), pushed()
        before = [all_of(field), all_of(other)]
        with self.assertRaises(Rejected) as caught:
            field.attempt(PUSHES, watch=lambda given: other.attempt([("push", 0, 0), ("pull", 99)]))
        self.assertEqual(caught.exception.index, 1)
        self.assertEqual([all_of(field), all_of(other)], before)
        self.assertEqual([field.undo(), other.undo()], [1, 1])

    def test_an_inner_edit_of_the_outer_field(self):
        field, other = pushed(), pushed()
        before = [all_of(field), all_of(other)]
        with self.assertRaises(Busy):
            field.attempt(PUSHES, watch=lambda given: other.attempt(PUSHES, watch=lambda inner: field.undo()))
        self.assertEqual([all_of(field), all_of(other)], before)

    def test_edits_of_another_field_stand_if_the_batch_fails(self):
        field, other = pushed(), pushed()

        def watch(given):
            other.push(1, 1)

        with self.assertRaises(Rejected):
            field.attempt(PUSHES[:2] + [("pull", 99)], watch=watch)
        self.assertEqual([len(field), len(other)], [2, 4])


class BusyOrderTest(unittest.TestCase):

    def test_the_field_works_after_a_failed_batch(self):
        for batch in ([("pull", 99)], [None], None, [("push", 0, 0)] * 30):
            field = pushed()
            with self.assertRaises(FallError):
                field.attempt(batch, watch=no_watch)
            self.assertEqual([field.push(0, 0), field.undo(), field.attempt(PUSHES)], [3, 2, 3])


if __name__ == "__main__":
    unittest.main()
