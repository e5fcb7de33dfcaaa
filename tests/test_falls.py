"""Tests of marktopples.falls: points [5] and [6], and what points [2] (a) and [3] say of them."""

import inspect
import itertools
import random
import unittest

from marktopples import falls
from marktopples.errors import BadPushes
from marktopples.falls import falls_of, is_table, needed_pushes, together
from marktopples.trees import is_tree
from tests.samples import (
    LAST_TICK, LIMIT, LONGEST, SEVERAL, SMALL, T, any_values, chain, check_bool, check_call, check_interface,
    check_raises, is_possible, plain_distances, plain_falls, push_choices, random_tree, star, tables_to,
)


class ExampleTest(unittest.TestCase):

    def test_falls_of(self):
        self.assertEqual(repr([falls_of(T, ((0, 1), (2, 0))), falls_of(T, ((1, 4),))]), "[(1, 3, 0), (6, 4, 7)]")

    def test_is_table(self):
        found = [is_table(T, (1, 3, 0)), is_table(T, (1, 4, 0)), is_table(T, (1, 3))]
        self.assertEqual(repr(found), "[True, False, False]")

    def test_needed_pushes(self):
        found = [needed_pushes(T, (1, 3, 0)), needed_pushes(T, (6, 4, 7)), needed_pushes(T, (5, 5, 5))]
        self.assertEqual(repr(found), "[((0, 1), (2, 0)), ((1, 4),), ((0, 5), (1, 5), (2, 5))]")

    def test_together(self):
        self.assertEqual(repr(together((1, 3, 6), (5, 3, 0))), "(1, 3, 0)")


class InterfaceTest(unittest.TestCase):

    def test_functions_are_defined_in_the_file(self):
        check_interface(self, falls, {
            "falls_of": ["tree", "value"],
            "is_table": ["tree", "value"],
            "needed_pushes": ["tree", "table"],
            "together": ["tables"],
        })

    def test_together_takes_several_tables(self):
        self.assertIs(inspect.signature(together).parameters["tables"].kind, inspect.Parameter.VAR_POSITIONAL)


class FallsOfTest(unittest.TestCase):

    def check_falls(self, tree, pushes):
        found = check_call(self, falls_of, tree, pushes)
        self.assertEqual(found, plain_falls(tree, pushes), (tree, pushes))
        self.assertIs(type(found), tuple)
        self.assertTrue(all(type(number) is int for number in found))

    def test_one_push_at_each_mark(self):
        for tree in SEVERAL:
            for mark in range(len(tree) + 1):
                for tick in (0, 1, 7, LAST_TICK - 1, LAST_TICK):
                    self.check_falls(tree, ((mark, tick),))
                    far = plain_distances(tree)
                    self.assertEqual(falls_of(tree, ((mark, tick),)), tuple(tick + way for way in far[mark]))

    def test_one_to_twenty_pushes_on_one_to_twelve_marks(self):
        chance = random.Random(5)
        for marks in range(1, 13):
            for many in range(1, 21):
                for longest in (1, 9, LONGEST):
                    for last in (0, 9, LAST_TICK):
                        tree = random_tree(chance, marks, longest)
                        pushes = [(chance.randint(0, marks - 1), chance.randint(0, last)) for _ in range(many)]
                        self.check_falls(tree, tuple(pushes))

    def test_rows_of_the_same_length(self):
        chance = random.Random(6)
        for length in (1, LONGEST):
            for tree in [shape(marks, length) for shape in (chain, star) for marks in range(1, 13)]:
                marks = range(len(tree) + 1)
                self.check_falls(tree, tuple((mark, 0) for mark in marks))
                self.check_falls(tree, tuple((mark, LAST_TICK) for mark in marks))
                for many in (2, 3, 20):
                    ticks = [chance.choice([0, 3, length, LAST_TICK - length, LAST_TICK]) for _ in range(many)]
                    self.check_falls(tree, tuple((chance.choice(marks), tick) for tick in ticks))

    def test_the_greatest_tick_of_all(self):
        tree = chain(12, LONGEST)
        self.assertEqual(falls_of(tree, ((0, LAST_TICK),))[11], LAST_TICK + 11 * LONGEST)
        self.assertEqual(falls_of(tree, ((11, LAST_TICK),))[0], LAST_TICK + 11 * LONGEST)

    def test_order_of_pushes_does_not_matter(self):
        chance = random.Random(7)
        for tree in SEVERAL:
            for many in (2, 5, 20):
                pushes = [(chance.randint(0, len(tree)), chance.randint(0, 30)) for _ in range(many)]
                expected = falls_of(tree, tuple(pushes))
                self.assertEqual(falls_of(tree, tuple(sorted(pushes))), expected)
                self.assertEqual(falls_of(tree, tuple(pushes[::-1])), expected)

    def test_equal_pushes_may_occur(self):
        for tree in SEVERAL:
            pushes = ((0, 3), (len(tree), 1))
            self.assertEqual(falls_of(tree, pushes * 10), falls_of(tree, pushes))
            self.assertEqual(falls_of(tree, ((0, 3),) * 20), falls_of(tree, ((0, 3),)))

    def test_a_push_that_comes_too_late_changes_nothing(self):
        self.assertEqual(falls_of(T, ((0, 1), (1, 3))), (1, 3, 6))
        self.assertEqual(falls_of(T, ((0, 1), (1, 4))), (1, 3, 6))
        self.assertEqual(falls_of(T, ((0, 1), (1, 2))), (1, 2, 5))
        self.assertEqual(falls_of(T, ((0, 1), (0, 0))), (0, 2, 5))

    def test_falls_are_a_possible_table(self):
        for tree in SMALL:
            for pushes in push_choices(tree, 2):
                self.assertIs(is_table(tree, falls_of(tree, pushes)), True)


class BadPushesTest(unittest.TestCase):

    def check_bad(self, tree, value, index):
        check_raises(self, BadPushes, "index", index, falls_of, tree, value)

    def test_wrong_numbers_of_pushes(self):
        for tree in SEVERAL:
            self.check_bad(tree, (), None)
            for many in (21, 22, 40, 900):
                self.check_bad(tree, ((0, 0),) * many, None)
            falls_of(tree, ((0, 0),) * 20)

    def test_a_wrong_number_comes_before_a_wrong_push(self):
        self.check_bad(T, (None,) + ((0, 0),) * 20, None)
        self.check_bad(T, ((0, 0),) * 20 + ((0, -1),), None)
        self.check_bad(T, (None,) * 21, None)

    def test_lists_of_pushes(self):
        for value in ([], [(0, 1)], [(0, 1), (2, 0)], [[0, 1]], [None], [(0, 0)] * 21):
            self.check_bad(T, value, None)

    def test_any_values(self):
        for tree in ((), T, chain(12)):
            for value in any_values():
                with self.subTest(tree=tree, value=value):
                    if not isinstance(value, tuple) or not 1 <= len(value) <= 20:
                        self.check_bad(tree, value, None)
                    else:
                        self.check_bad(tree, value, 0)

    def test_any_value_as_a_push_at_each_place(self):
        for value in any_values():
            for many in (1, 2, 20):
                for index in {0, many // 2, many - 1}:
                    with self.subTest(value=value, many=many, index=index):
                        pushes = [(2, 5)] * many
                        pushes[index] = value
                        self.check_bad(T, tuple(pushes), index)

    def test_any_value_as_a_mark_or_a_tick(self):
        for value in any_values():
            if type(value) is not int or not 0 <= value <= 2:
                self.check_bad(T, ((1, 1), (value, 1)), 1)
            if type(value) is not int or not 0 <= value <= LAST_TICK:
                self.check_bad(T, ((1, 1), (1, value)), 1)

    def test_first_wrong_push_at_each_place(self):
        for tree in ((), T, star(12, LONGEST)):
            marks = len(tree) + 1
            for index in range(20):
                for push in ((-1, 0), (marks, 0), (0, -1), (0, LAST_TICK + 1), [0, 0], (0, 0, 0), (0,), None):
                    pushes = [(marks - 1, LAST_TICK)] * 20
                    falls_of(tree, tuple(pushes))
                    pushes[index] = push
                    self.check_bad(tree, tuple(pushes), index)
                    self.check_bad(tree, tuple(pushes[:index + 1]), index)
                    self.check_bad(tree, tuple(pushes[:index] + [push] * (20 - index)), index)

    def test_marks(self):
        for tree in SEVERAL:
            marks = len(tree) + 1
            for mark in range(marks):
                falls_of(tree, ((mark, 0),))
            for mark in (-1, -2, -marks, marks, marks + 1, 12, 10 ** 40 - 1, 1 - 10 ** 40):
                self.check_bad(tree, ((mark, 0),), 0)
                self.check_bad(tree, ((0, 0), (mark, 0)), 1)

    def test_ticks(self):
        for tick in (0, 1, LAST_TICK - 1, LAST_TICK):
            self.assertEqual(falls_of(T, ((1, tick),))[1], tick)
        for tick in (-1, -LAST_TICK, LAST_TICK + 1, LIMIT, 10 ** 40 - 1, 1 - 10 ** 40):
            self.check_bad(T, ((1, tick),), 0)

    def test_bools_are_not_numbers(self):
        for good, bad in [((1, 5), (True, 5)), ((0, 5), (False, 5)), ((1, 1), (1, True)), ((1, 0), (1, False))]:
            expected = plain_falls(T, (good,))
            self.assertEqual(falls_of(T, (good,)), expected)
            self.check_bad(T, (bad,), 0)
            self.assertEqual(falls_of(T, (good,)), expected)
            self.assertEqual(falls_of(T, ((2, 9), good)), plain_falls(T, ((2, 9), good)))
            self.check_bad(T, ((2, 9), bad), 1)
            self.check_bad(T, (bad, bad), 0)

    def test_bools_asked_before_numbers(self):
        self.check_bad(T, ((True, 8), (0, 1)), 0)
        self.assertEqual(falls_of(T, ((1, 8), (0, 1))), (1, 3, 6))
        self.check_bad(T, ((1, 8), (False, 1)), 1)
        self.check_bad(T, ((1, 8), (0, True)), 1)

    def test_bools_at_each_place(self):
        for index in range(20):
            for push in ((True, 1), (False, 1), (1, True), (1, False), (True, False)):
                pushes = [(1, 1)] * 20
                falls_of(T, tuple(pushes))
                pushes[index] = push
                self.check_bad(T, tuple(pushes), index)

    def test_pushes_of_other_lengths(self):
        for push in ((), (0,), (1,), (0, 1, 1), (0, 1, None), (0, 1, 0, 1), (0,) * 900):
            self.check_bad(T, (push,), 0)
            self.check_bad(T, ((0, 1), push), 1)

    def test_pushes_without_a_tuple_around_them(self):
        self.check_bad(T, (0, 1), 0)
        self.check_bad(T, (((0, 1),),), 0)


class IsTableTest(unittest.TestCase):

    def test_all_small_tables(self):
        for tree in SMALL:
            for table in itertools.product(range(5), repeat=len(tree) + 1):
                check_bool(self, is_possible(tree, table), is_table, tree, table)

    def test_random_tables(self):
        chance = random.Random(8)
        for _ in range(400):
            tree = random_tree(chance, chance.randint(1, 12), 9)
            table = tuple(chance.randint(0, 4) for _ in range(len(tree) + 1))
            check_bool(self, is_possible(tree, table), is_table, tree, table)

    def test_bounds_of_the_numbers(self):
        for tree in SEVERAL:
            marks = len(tree) + 1
            for number in (0, 1, LAST_TICK + 1, LIMIT - 1, LIMIT):
                check_bool(self, True, is_table, tree, (number,) * marks)
            for number in (-1, LIMIT + 1, LIMIT + LONGEST, 10 ** 40 - 1, 1 - 10 ** 40):
                check_bool(self, False, is_table, tree, (number,) * marks)

    def test_bounds_of_the_numbers_at_each_mark(self):
        for tree in (((0, 1),), T, chain(12), star(12, LONGEST)):
            marks = len(tree) + 1
            for mark in range(marks):
                table = [0] * marks
                table[mark] = -1
                check_bool(self, False, is_table, tree, tuple(table))
                table = [LIMIT] * marks
                table[mark] = LIMIT + 1
                check_bool(self, False, is_table, tree, tuple(table))
                table[mark] = LIMIT - 1
                check_bool(self, True, is_table, tree, tuple(table))

    def test_neighbours_that_differ_by_the_length_of_the_row(self):
        for tree in SEVERAL:
            for row, (parent, length) in enumerate(tree):
                falls_from = plain_falls(tree, ((parent, 5),))
                falls_to = plain_falls(tree, ((row + 1, 5),))
                self.assertEqual(falls_from[row + 1], falls_from[parent] + length)
                self.assertEqual(falls_to[parent], falls_to[row + 1] + length)
                check_bool(self, True, is_table, tree, falls_from)
                check_bool(self, True, is_table, tree, falls_to)

    def test_neighbours_that_differ_by_one_more(self):
        for length in (1, 2, 50, LONGEST):
            for table, expected in [
                ((7, 7 + length), True), ((7, 8 + length), False), ((7 + length, 7), True), ((8 + length, 7), False),
            ]:
                check_bool(self, expected, is_table, ((0, length),), table)
            for marks in range(3, 13):
                for tree in (chain(marks, length), star(marks, length)):
                    for row, (parent, _) in enumerate(tree):
                        for near, far in ((parent, row + 1), (row + 1, parent)):
                            # All marks on the side of far fall later, so that only this row can be wrong.
                            for more in (0, 1):
                                table = self.cut_table(tree, near, far, length + more)
                                check_bool(self, more == 0, is_table, tree, table)

    def cut_table(self, tree, near, far, difference):
        distances = plain_distances(tree)
        beyond = [distances[far][mark] < distances[near][mark] for mark in range(len(tree) + 1)]
        return tuple(3 + difference if is_beyond else 3 for is_beyond in beyond)

    def test_marks_that_are_no_neighbours_may_differ_by_more(self):
        check_bool(self, True, is_table, ((0, 1), (1, 1)), (0, 1, 2))
        check_bool(self, True, is_table, ((0, 1), (0, 1)), (1, 0, 2))
        check_bool(self, True, is_table, ((0, 1), (0, 1)), (1, 2, 0))

    def test_too_few_and_too_many_numbers(self):
        for tree in SEVERAL:
            marks = len(tree) + 1
            for many in {0, marks - 1, marks + 1, marks + 2, 900} - {marks}:
                check_bool(self, False, is_table, tree, (4,) * many)

    def test_bools_are_not_numbers(self):
        for tree in SEVERAL:
            marks = len(tree) + 1
            for number, bool_value in ((1, True), (0, False)):
                for mark in range(marks):
                    table = [number] * marks
                    check_bool(self, True, is_table, tree, tuple(table))
                    table[mark] = bool_value
                    check_bool(self, False, is_table, tree, tuple(table))
                check_bool(self, False, is_table, tree, (bool_value,) * marks)
                check_bool(self, True, is_table, tree, (number,) * marks)

    def test_lists(self):
        for tree in SEVERAL:
            check_bool(self, False, is_table, tree, [0] * (len(tree) + 1))
            check_bool(self, False, is_table, tree, ([0],) * (len(tree) + 1))

    def test_any_values(self):
        for tree in ((), ((0, 5),), T, chain(12)):
            for value in any_values():
                with self.subTest(tree=tree, value=value):
                    expected = (tree, value) in [((), (0,)), (T, (0, 1, 2))] and type(value[0]) is int
                    check_bool(self, expected, is_table, tree, value)

    def test_any_value_as_a_number(self):
        for value in any_values():
            expected = type(value) is int and 0 <= value <= 3
            check_bool(self, expected, is_table, T, (1, 1, value))
            check_bool(self, type(value) is int and 0 <= value <= LIMIT, is_table, (), (value,))


class NeededPushesTest(unittest.TestCase):

    def plain_needed(self, tree, table):
        """Return the needed pushes in the words of the document."""
        found = []
        for mark, number in enumerate(table):
            rows = [(parent, row + 1, length) for row, (parent, length) in enumerate(tree) if mark in (parent, row + 1)]
            near = [(one + other - mark, length) for one, other, length in rows]
            if all(number < table[other] + length for other, length in near):
                found.append((mark, number))
        return tuple(found)

    def check_needed(self, tree, table):
        found = check_call(self, needed_pushes, tree, table)
        self.assertEqual(found, self.plain_needed(tree, table), (tree, table))
        self.assertEqual(found, tuple(sorted(found)))
        self.assertEqual(plain_falls(tree, found), table)
        for index in range(len(found)):
            fewer = found[:index] + found[index + 1:]
            if fewer:
                self.assertNotEqual(plain_falls(tree, fewer), table)

    def test_all_small_tables(self):
        for tree in SMALL:
            for table in tables_to(tree, 4):
                self.check_needed(tree, table)

    def test_tables_of_random_pushes(self):
        chance = random.Random(9)
        for _ in range(300):
            tree = random_tree(chance, chance.randint(1, 12), chance.choice([1, 4, LONGEST]))
            last = chance.choice([3, 20, LAST_TICK])
            many = chance.randint(1, 8)
            pushes = tuple((chance.randint(0, len(tree)), chance.randint(0, last)) for _ in range(many))
            table = plain_falls(tree, pushes)
            self.check_needed(tree, table)
            self.assertTrue(set(needed_pushes(tree, table)) <= set(pushes))

    def test_equal_numbers(self):
        for tree in SEVERAL:
            for number in (0, 1, LAST_TICK, LAST_TICK + 1, LIMIT):
                table = (number,) * (len(tree) + 1)
                self.check_needed(tree, table)
                self.assertEqual(needed_pushes(tree, table), tuple(enumerate(table)))

    def test_numbers_up_to_the_limit(self):
        for tree in SEVERAL:
            if len(tree) > 1:
                base = plain_falls(tree, ((0, 0), (len(tree), 2)))
                self.check_needed(tree, tuple(number + LIMIT - max(base) for number in base))
        self.assertEqual(needed_pushes(T, (LIMIT, LIMIT, LIMIT - 3)), ((0, LIMIT), (2, LIMIT - 3)))
        self.assertEqual(needed_pushes((), (LIMIT,)), ((0, LIMIT),))

    def test_a_number_that_is_just_reached_needs_no_push(self):
        self.assertEqual(needed_pushes(((0, 4),), (0, 4)), ((0, 0),))
        self.assertEqual(needed_pushes(((0, 4),), (0, 3)), ((0, 0), (1, 3)))
        self.assertEqual(needed_pushes(((0, 4),), (4, 0)), ((1, 0),))
        self.assertEqual(needed_pushes(((0, 4),), (3, 0)), ((0, 3), (1, 0)))

    def test_one_neighbour_that_reaches_the_mark_is_enough(self):
        tree = ((0, 2), (0, 3), (0, 4))
        self.assertEqual(needed_pushes(tree, (5, 5, 2, 5)), ((1, 5), (2, 2), (3, 5)))
        self.assertEqual(needed_pushes(tree, (5, 5, 3, 5)), ((0, 5), (1, 5), (2, 3), (3, 5)))


class PossibleTableTest(unittest.TestCase):
    """Guarantee (a)."""

    def test_a_table_is_possible_exactly_if_pushes_lead_to_it(self):
        for tree in SMALL:
            if len(tree) < 3:
                reached = {falls_of(tree, pushes) for pushes in push_choices(tree, 4)}
                for table in tables_to(tree, 4):
                    self.assertIn(table, reached)
                for table in reached:
                    self.assertTrue(is_possible(tree, table))
                    self.assertIs(is_table(tree, table), True)

    def test_no_pushes_without_a_needed_one_lead_to_the_table(self):
        for tree in SMALL:
            if len(tree) < 3:
                for pushes in push_choices(tree, 4):
                    needed = needed_pushes(tree, falls_of(tree, pushes))
                    self.assertTrue(set(needed) <= set(pushes), (tree, pushes))

    def test_needed_pushes_lead_to_the_table(self):
        for tree in SMALL:
            for table in tables_to(tree, 3):
                self.assertEqual(falls_of(tree, needed_pushes(tree, table)), table)


class TogetherTest(unittest.TestCase):

    def test_one_table(self):
        for table in ((0,), (LIMIT,), (1, 3, 6), (LIMIT,) * 12):
            self.assertEqual(check_call(self, together, table), table)
            self.assertEqual(together(table, table, table), table)

    def test_several_tables(self):
        chance = random.Random(10)
        for _ in range(100):
            tree = random_tree(chance, chance.randint(1, 12), 9)
            marks = len(tree) + 1
            all_pushes = [((chance.randint(0, len(tree)), chance.randint(0, 20)),) for _ in range(chance.randint(1, 9))]
            tables = [plain_falls(tree, pushes) for pushes in all_pushes]
            found = check_call(self, together, *tables)
            self.assertEqual(found, tuple(min(table[mark] for table in tables) for mark in range(marks)))
            self.assertIs(type(found), tuple)
            self.assertEqual(found, falls_of(tree, tuple(push for pushes in all_pushes for push in pushes)))
            self.assertEqual(together(*tables[::-1]), found)

    def test_numbers_up_to_the_limit(self):
        self.assertEqual(together((LIMIT, LIMIT - 1), (LIMIT - 1, LIMIT)), (LIMIT - 1, LIMIT - 1))
        self.assertEqual(together((LIMIT,), (0,), (LAST_TICK,)), (0,))

    def test_many_tables(self):
        tables = [tuple(abs(mark - k) for mark in range(12)) for k in range(12)]
        self.assertEqual(together(*tables), (0,) * 12)
        self.assertEqual(together(*tables[3:5]), (3, 2, 1, 0, 0, 1, 2, 3, 4, 5, 6, 7))

    def test_the_result_is_possible(self):
        for tree in SMALL:
            if len(tree) < 3:
                tables = tables_to(tree, 3)
                for one in tables:
                    for other in tables:
                        self.assertIs(is_table(tree, together(one, other)), True)


class RandomTreeTest(unittest.TestCase):

    def test_the_samples_are_trees(self):
        chance = random.Random(11)
        for tree in SEVERAL + SMALL + [random_tree(chance, marks, LONGEST) for marks in range(1, 13)]:
            self.assertTrue(is_tree(tree))


if __name__ == "__main__":
    unittest.main()
