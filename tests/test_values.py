"""Tests of marktopples.values: point [13], and what point [3] says of it."""

import copy
import inspect
import random
import unittest
from unittest import mock

from marktopples import values
from marktopples.errors import (
    BadPushes, BadTable, BadTick, BadTree, BadWindows, FallError, Misfit, NoMark, OtherTree, TooLarge,
)
from marktopples.falls import falls_of, is_table, together
from marktopples.trees import tree_error
from marktopples.values import Crew, Falls
from marktopples.windows import is_windows
from tests.samples import (
    LAST_TICK, LIMIT, LONGEST, SEVERAL, T, W, any_values, chain, check_raises, check_same_value, plain_falls,
    random_tree, random_windows, star,
)

TABLE = (1, 3, 6)


def falls_cases(seed, many):
    """Return Falls of trees of one to twelve marks, with numbers of one to ten digits."""
    chance = random.Random(seed)
    found = []
    for _ in range(many):
        tree = random_tree(chance, chance.randint(1, 12), chance.choice([1, 5, LONGEST]))
        last = chance.choice([0, 9, 5000, LAST_TICK])
        pushes = tuple((chance.randint(0, len(tree)), chance.randint(0, last)) for _ in range(chance.randint(1, 5)))
        found.append(Falls(tree, falls_of(tree, pushes)))
    return found


class Case(unittest.TestCase):

    def check_falls(self, falls, tree, table):
        self.assertIs(type(falls), Falls)
        self.assertEqual(falls.tree, tree)
        self.assertEqual(falls.table, table)
        self.assertEqual(repr((falls.tree, falls.table)), repr((tree, table)))


class ExampleTest(unittest.TestCase):

    def test_falls(self):
        falls = Falls(T, (1, 3, 0))
        self.assertEqual(repr([falls.tree == T, falls.table, len(falls)]), "[True, (1, 3, 0), 3]")

    def test_operators(self):
        one = Falls(T, (1, 3, 6))
        other = Falls(T, (5, 3, 0))
        found = [one[2], (one | other).table, (one + 4).table, (2, 6) in one, (2, 5) in one]
        self.assertEqual(repr(found), "[6, (1, 3, 0), (5, 7, 10), True, False]")

    def test_str_and_equal(self):
        falls = Falls(((0, 2000),), (0, 1500))
        found = [str(falls), falls == Falls(((0, 2000),), (0, 1500))]
        self.assertEqual(repr(found), "[' 0             0\\n 1         1,500', True]")

    def test_crew(self):
        crew = Crew(T, W)
        self.assertEqual([crew(((0, 1), (2, 0))).table, crew.tries], [(1, 3, 0), 1])
        check_raises(self, Misfit, "mark", 0, crew, ((1, 4),))


class InterfaceTest(unittest.TestCase):

    def test_classes_are_defined_in_the_file(self):
        for name, parameters in [("Falls", ["tree", "table"]), ("Crew", ["tree", "windows"])]:
            found = getattr(values, name)
            self.assertTrue(inspect.isclass(found))
            self.assertEqual(found.__module__, values.__name__)
            self.assertEqual(list(inspect.signature(found).parameters), parameters)

    def test_methods_stand_in_the_class(self):
        for name in ("__getitem__", "__or__", "__add__", "__contains__", "__len__", "__str__", "__eq__"):
            self.assertIn(name, vars(Falls))
        self.assertIn("__call__", vars(Crew))


class FallsTest(Case):

    def test_trees_and_tables(self):
        for falls in falls_cases(91, 60):
            tree, table = falls.tree, falls.table
            made = Falls(tree, table)
            self.check_falls(made, tree, table)
            self.assertIs(made.tree, tree)
            self.assertIs(made.table, table)

    def test_any_value_as_a_tree(self):
        for value in any_values():
            with self.subTest(value=value):
                error = tree_error(value)
                if error is None:
                    self.assertEqual(value, ())
                    self.check_falls(Falls(value, (3,)), (), (3,))
                else:
                    check_raises(self, BadTree, "error", error, Falls, value, (3,))

    def test_wrong_rows(self):
        for tree in [((0, 2), (2, 3)), ((0, 0),), ((0, 2), (True, 3)), ((0, True),), [(0, 2)], ([0, 2],), chain(13)]:
            check_raises(self, BadTree, "error", tree_error(tree), Falls, tree, (0, 0, 0))

    def test_any_value_as_a_table(self):
        for tree in ((), ((0, 5),), T):
            for value in any_values():
                with self.subTest(tree=tree, value=value):
                    if is_table(tree, value):
                        self.check_falls(Falls(tree, value), tree, value)
                    else:
                        check_same_value(self, BadTable, value, Falls, tree, value)

    def test_wrong_tables(self):
        for table in [(1, 3), (1, 3, 6, 9), (1, 4, 6), (1, 3, 7), [1, 3, 6], (True, 3, 6), (0, False, 0), (-1, 0, 0),
                      (LIMIT + 1, LIMIT, LIMIT), (None,) * 3]:
            check_same_value(self, BadTable, table, Falls, T, table)
        self.check_falls(Falls(T, (1, 1, 1)), T, (1, 1, 1))
        with_bool = (1, True, 1)
        check_same_value(self, BadTable, with_bool, Falls, T, with_bool)
        self.check_falls(Falls(T, (1, 1, 1)), T, (1, 1, 1))

    def test_a_bad_tree_comes_ahead_of_a_bad_table(self):
        for value in any_values():
            check_raises(self, BadTree, "error", (0, "row"), Falls, ((0, 0),), value)
            check_raises(self, BadTree, "error", (None, "tree"), Falls, [], value)

    def test_tree_and_table_are_only_read(self):
        falls = Falls(T, TABLE)
        with self.assertRaises(AttributeError):
            falls.tree = ()
        with self.assertRaises(AttributeError):
            falls.table = (0, 0, 0)
        self.check_falls(falls, T, TABLE)

    def test_arguments_that_change_later(self):
        rows = [(0, 2), (1, 3)]
        numbers = [1, 3, 6]
        falls = Falls(tuple(rows), tuple(numbers))
        rows[0] = (0, 9)
        numbers[0] = 0
        self.check_falls(falls, T, TABLE)


class ItemTest(Case):

    def test_marks(self):
        for falls in falls_cases(92, 40):
            for mark, number in enumerate(falls.table):
                self.assertIs(type(falls[mark]), int)
                self.assertEqual(falls[mark], number)
            self.assertEqual(falls[len(falls) - 1], falls.table[-1])

    def test_values_that_are_no_marks(self):
        for tree in SEVERAL:
            marks = len(tree) + 1
            falls = Falls(tree, plain_falls(tree, ((0, 4),)))
            wrong = [-1, -marks, marks, marks + 1, 12, 10 ** 40 - 1, True, False, "0", None, 0.0, (0,), [0], slice(1)]
            for value in wrong:
                check_same_value(self, NoMark, value, falls.__getitem__, value)
                with self.assertRaises(NoMark) as caught:
                    falls[value]
                self.assertIs(caught.exception.value, value)

    def test_any_values(self):
        falls = Falls(T, TABLE)
        for value in any_values():
            with self.subTest(value=value):
                if type(value) is int and 0 <= value <= 2:
                    self.assertEqual(falls[value], TABLE[value])
                else:
                    check_same_value(self, NoMark, value, falls.__getitem__, value)

    def test_no_mark_is_a_lookup_error(self):
        with self.assertRaises(LookupError):
            Falls(T, TABLE)[3]

    def test_a_loop_raises_a_fitting_error(self):
        falls = Falls(T, TABLE)
        for act in (list, tuple, iter, sorted, sum, set, enumerate):
            with self.assertRaises(TypeError):
                act(falls)
        with self.assertRaises(TypeError):
            for _ in falls:
                self.fail("a loop was entered")
        with self.assertRaises(TypeError):
            _, _, _ = falls


class OrTest(Case):

    def test_equal_trees(self):
        chance = random.Random(93)
        for _ in range(60):
            tree = random_tree(chance, chance.randint(1, 12), 9)
            one, other = [
                plain_falls(tree, ((chance.randint(0, len(tree)), chance.randint(0, 20)),)) for _ in range(2)
            ]
            left, right = Falls(tree, one), Falls(copy.deepcopy(tree), other)
            self.check_falls(left | right, tree, together(one, other))
            self.check_falls(right | left, tree, together(one, other))
            self.check_falls(left | left, tree, one)
            self.check_falls(left, tree, one)
            self.check_falls(right, tree, other)

    def test_other_trees(self):
        left = Falls(T, TABLE)
        for tree in [(), ((0, 2),), ((0, 2), (0, 3)), ((0, 2), (1, 4)), T + ((0, 1),)]:
            right = Falls(tree, (4,) * (len(tree) + 1))
            for one, other in ((left, right), (right, left)):
                for _ in range(2):
                    with self.assertRaises(OtherTree) as caught:
                        one | other
                    self.assertIs(type(caught.exception), OtherTree)
                    self.assertIsInstance(caught.exception, FallError)
            self.check_falls(left, T, TABLE)
            self.check_falls(right, tree, (4,) * (len(tree) + 1))

    def test_other_kinds_have_no_such_sign(self):
        falls = Falls(T, TABLE)
        for value in (None, 0, (), T, TABLE, [falls], "falls"):
            with self.assertRaises(TypeError):
                falls | value
            with self.assertRaises(TypeError):
                value | falls

    def test_in_place_sign_leaves_the_operand(self):
        one = Falls(T, (1, 3, 6))
        kept = one
        one |= Falls(T, (5, 3, 0))
        self.check_falls(one, T, (1, 3, 0))
        self.check_falls(kept, T, (1, 3, 6))


class AddTest(Case):

    def test_ticks(self):
        for falls in falls_cases(94, 60):
            tree, table = falls.tree, falls.table
            for tick in (0, 1, 17, LAST_TICK // 2):
                found = falls + tick
                self.check_falls(found, tree, tuple(number + tick for number in table))
                self.check_falls(falls, tree, table)

    def test_bounds_of_the_tick(self):
        falls = Falls(T, TABLE)
        self.check_falls(falls + 0, T, TABLE)
        self.check_falls(falls + LAST_TICK, T, (LAST_TICK + 1, LAST_TICK + 3, LAST_TICK + 6))
        for value in (-1, -LAST_TICK, LAST_TICK + 1, LIMIT, 10 ** 40 - 1, 1 - 10 ** 40):
            check_same_value(self, BadTick, value, falls.__add__, value)

    def test_the_limit(self):
        for tree in SEVERAL:
            base = plain_falls(tree, ((0, 0),))
            high = tuple(number + LIMIT - max(base) for number in base)
            for tick in (0, 1, 7, LAST_TICK):
                low = Falls(tree, tuple(number - tick for number in high))
                self.check_falls(low + tick, tree, high)
                if tick < LAST_TICK:
                    check_raises(self, TooLarge, "bound", LIMIT, low.__add__, tick + 1)
                self.check_falls(low, tree, tuple(number - tick for number in high))
            check_raises(self, TooLarge, "bound", LIMIT, Falls(tree, high).__add__, 1)
            check_raises(self, TooLarge, "bound", LIMIT, Falls(tree, high).__add__, LAST_TICK)
        self.check_falls(Falls((), (LAST_TICK,)) + LAST_TICK, (), (LIMIT,))
        check_raises(self, TooLarge, "bound", LIMIT, Falls((), (LAST_TICK + 1,)).__add__, LAST_TICK)

    def test_a_number_that_is_not_the_last_one_is_too_large(self):
        check_raises(self, TooLarge, "bound", LIMIT, Falls(T, (LIMIT, LIMIT - 2, LIMIT - 5)).__add__, 1)
        check_raises(self, TooLarge, "bound", LIMIT, Falls(T, (LIMIT - 2, LIMIT, LIMIT - 3)).__add__, 1)

    def test_a_bad_tick_comes_ahead_of_the_limit(self):
        falls = Falls((), (LIMIT,))
        for value in (True, -1, LAST_TICK + 1, LIMIT, "1", None, falls):
            check_same_value(self, BadTick, value, falls.__add__, value)
        check_raises(self, TooLarge, "bound", LIMIT, falls.__add__, 1)

    def test_any_values(self):
        falls = Falls(T, TABLE)
        for value in any_values() + [falls, 1.0]:
            with self.subTest(value=value):
                if type(value) is int and 0 <= value <= LAST_TICK:
                    self.check_falls(falls + value, T, tuple(number + value for number in TABLE))
                else:
                    check_same_value(self, BadTick, value, lambda x: falls + x, value)
                self.check_falls(falls, T, TABLE)

    def test_bools_are_not_ticks(self):
        falls = Falls(T, TABLE)
        for good, bad in ((1, True), (0, False)):
            check_same_value(self, BadTick, bad, falls.__add__, bad)
            self.check_falls(falls + good, T, tuple(number + good for number in TABLE))
            check_same_value(self, BadTick, bad, falls.__add__, bad)

    def test_in_place_sign_leaves_the_operand(self):
        falls = Falls(T, TABLE)
        kept = falls
        falls += 4
        self.check_falls(falls, T, (5, 7, 10))
        self.check_falls(kept, T, TABLE)


class InTest(Case):

    def test_numbers_around_those_of_the_marks(self):
        for falls in falls_cases(95, 40):
            for mark, number in enumerate(falls.table):
                for more in (-1, 0, 1, LIMIT, 10 ** 40 - 1 - number, -10 ** 39):
                    self.assertIs((mark, number + more) in falls, more >= 0)
                    self.assertIs((mark, number + more) not in falls, more < 0)

    def test_values_that_are_no_marks(self):
        for tree in SEVERAL:
            falls = Falls(tree, (0,) * (len(tree) + 1))
            for mark in (-1, len(tree) + 1, 12, 10 ** 40 - 1, True, False, "0", None, (0,), [0]):
                self.assertIs((mark, 5) in falls, False)
            self.assertIs((len(tree), 0) in falls, True)
            self.assertIs((0, 0) in falls, True)

    def test_values_that_are_no_numbers(self):
        falls = Falls(T, (0, 0, 0))
        for number in (True, False, "5", None, (5,), [5], 5.0):
            self.assertIs((1, number) in falls, False)
        self.assertIs((1, 0) in falls, True)

    def test_other_lengths_lists_and_kinds(self):
        falls = Falls(T, (0, 0, 0))
        for value in [(), (0,), (0, 1, 2), (0, 1, None), [0, 1], [(0, 1)], ((0, 1),), {0: 1}, "01", 0, 1, True]:
            self.assertIs(value in falls, False)

    def test_any_values(self):
        falls = Falls(T, (0, 2, 4))
        for value in any_values():
            with self.subTest(value=value):
                self.assertIs(value in falls, False)
                self.assertIs((0, value) in falls, type(value) is int and value >= 0)
                self.assertIs((value, 4) in falls, type(value) is int and 0 <= value <= 2)
        self.check_falls(falls, T, (0, 2, 4))

    def test_falls_and_errors(self):
        falls = Falls(T, (0, 2, 4))
        for value in (falls, (falls, 3), (0, falls), BadTick(1)):
            self.assertIs(value in falls, False)


class LenStrTest(Case):

    def test_len(self):
        for tree in SEVERAL:
            self.assertEqual(len(Falls(tree, (7,) * (len(tree) + 1))), len(tree) + 1)

    def test_one_to_twelve_marks(self):
        for falls in falls_cases(96, 100):
            lines = str(falls).split("\n")
            self.assertEqual(len(lines), len(falls))
            for mark, line in enumerate(lines):
                self.assertEqual(len(line), 16)
                self.assertEqual(line[:3], str(mark).rjust(2) + " ")
                self.assertEqual(line[3:].replace(",", "").strip(), str(falls[mark]))

    def test_numbers_of_one_to_ten_digits(self):
        for number, text in [
            (0, "0"), (7, "7"), (12, "12"), (999, "999"), (1000, "1,000"), (12345, "12,345"), (123456, "123,456"),
            (1234567, "1,234,567"), (12345678, "12,345,678"), (123456789, "123,456,789"),
            (1234567890, "1,234,567,890"), (LIMIT, "2,000,000,000"),
        ]:
            self.assertEqual(str(Falls((), (number,))), " 0 " + text.rjust(13))
        self.assertEqual(str(Falls((), (LIMIT,))), " 0 2,000,000,000")

    def test_marks_of_two_digits(self):
        text = str(Falls(chain(12), tuple(range(12))))
        self.assertEqual(text.split("\n")[9:], [
            " 9             9", "10            10", "11            11",
        ])
        self.assertFalse(text.endswith("\n"))

    def test_equal_calls(self):
        falls = Falls(T, TABLE)
        self.assertEqual(str(falls), str(Falls(T, TABLE)))
        self.assertEqual(f"{falls}", str(falls))


class EqualTest(Case):

    def test_equal_trees_and_tables(self):
        for falls in falls_cases(97, 30):
            twin = Falls(copy.deepcopy(falls.tree), copy.deepcopy(falls.table))
            self.assertIs(falls == twin, True)
            self.assertIs(falls != twin, False)
            self.assertIs(falls == falls, True)

    def test_other_tables_and_other_trees(self):
        falls = Falls(T, TABLE)
        for other in [Falls(T, (1, 3, 5)), Falls(T, (0, 2, 5)), Falls(((0, 2), (1, 4)), TABLE), Falls((), (1,)),
                      Falls(((0, 2), (0, 5)), TABLE), Falls(T + ((0, 1),), TABLE + (1,))]:
            self.assertIs(falls == other, False)
            self.assertIs(other == falls, False)
            self.assertIs(falls != other, True)

    def test_other_kinds(self):
        falls = Falls(T, TABLE)
        others = any_values() + [T, TABLE, (T, TABLE), str(falls), Crew(T, W), object()]
        for other in others:
            self.assertIs(falls == other, False)
            self.assertIs(other == falls, False)
            self.assertIs(falls != other, True)
        self.assertIs(falls == mock.ANY, False)

    def test_results_of_operators(self):
        one = Falls(T, (1, 3, 6))
        self.assertTrue(one + 0 == one)
        self.assertTrue(one | one == one)
        self.assertTrue((one + 2) + 3 == one + 5)
        self.assertTrue(one + 1 != one)


class CrewTest(Case):

    def test_any_value_as_a_tree(self):
        for value in any_values():
            with self.subTest(value=value):
                error = tree_error(value)
                if error is None:
                    self.assertEqual(Crew(value, ((0, None),)).tries, 0)
                else:
                    check_raises(self, BadTree, "error", error, Crew, value, ((0, None),))

    def test_any_value_as_windows(self):
        for tree in ((), ((0, 5),), T):
            for value in any_values():
                with self.subTest(tree=tree, value=value):
                    self.assertFalse(is_windows(tree, value))
                    check_same_value(self, BadWindows, value, Crew, tree, value)

    def test_wrong_windows(self):
        for windows in [W[:2], W + W[:1], list(W), ((0, 4), [3, 9], (0, 4)), ((0, 4), (9, 3), (0, 4)),
                        ((0, 4), (3, 9), (False, 4)), ((0, 4), (3, 9), (0, LAST_TICK + 1)), ((0, True),) * 3]:
            check_same_value(self, BadWindows, windows, Crew, T, windows)

    def test_a_bad_tree_comes_ahead_of_bad_windows(self):
        for value in any_values():
            check_raises(self, BadTree, "error", (0, "row"), Crew, ((0, 0),), value)

    def test_windows_that_no_table_fits(self):
        crew = Crew(T, ((5, 9), (0, 2), (0, 9)))
        check_raises(self, Misfit, "mark", 0, crew, ((1, 2),))
        check_raises(self, Misfit, "mark", 1, crew, ((0, 5),))
        self.assertEqual(crew.tries, 0)

    def test_calls(self):
        chance = random.Random(98)
        fitting = 0
        for _ in range(300):
            tree = random_tree(chance, chance.randint(1, 6), 3)
            windows = random_windows(chance, len(tree) + 1, 6)
            crew = Crew(tree, windows)
            tries = 0
            for _ in range(4):
                many = chance.randint(1, 4)
                pushes = tuple((chance.randint(0, len(tree)), chance.randint(0, 6)) for _ in range(many))
                table = plain_falls(tree, pushes)
                wrong = [
                    mark for mark, (least, last) in enumerate(windows)
                    if table[mark] < least or (last is not None and table[mark] > last)
                ]
                if wrong:
                    check_raises(self, Misfit, "mark", wrong[0], crew, pushes)
                else:
                    self.check_falls(crew(pushes), tree, table)
                    tries += 1
                self.assertEqual(crew.tries, tries)
            fitting += tries
        self.assertGreater(fitting, 100)

    def test_bad_pushes(self):
        crew = Crew(T, W)
        for value in any_values():
            with self.subTest(value=value):
                many = isinstance(value, tuple) and 1 <= len(value) <= 20
                check_raises(self, BadPushes, "index", 0 if many else None, crew, value)
        for value, index in [
            ((), None), (((0, 0),) * 21, None), ([(0, 0)], None), (((0, 1), (3, 0)), 1), (((0, 1), [2, 0]), 1),
            (((0, 1), (2, True)), 1), (((0, 1), (2, LAST_TICK + 1), None), 1), ((None, (0, 1)), 0),
        ]:
            check_raises(self, BadPushes, "index", index, crew, value)
        self.assertEqual(crew.tries, 0)

    def test_bad_pushes_come_ahead_of_a_misfit(self):
        check_raises(self, BadPushes, "index", 1, Crew(T, W), ((1, 4), (3, 0)))

    def test_ends_of_windows(self):
        crew = Crew((), ((3, 5),))
        for tick in range(8):
            if 3 <= tick <= 5:
                self.check_falls(crew(((0, tick),)), (), (tick,))
            else:
                check_raises(self, Misfit, "mark", 0, crew, ((0, tick),))
        self.assertEqual(crew.tries, 3)

    def test_first_mark_out_of_its_window(self):
        for mark in range(12):
            windows = ((0, 11),) * mark + ((20, 30),) * (12 - mark)
            check_raises(self, Misfit, "mark", mark, Crew(chain(12), windows), ((0, 0),))
            windows = ((0, 2),) * mark + ((0, 0),) * (12 - mark)
            check_raises(self, Misfit, "mark", mark, Crew(star(12), windows), ((0, 1),))

    def test_tries_is_only_read(self):
        crew = Crew(T, W)
        with self.assertRaises(AttributeError):
            crew.tries = 5
        self.assertEqual(crew.tries, 0)

    def test_each_crew_has_tries_of_its_own(self):
        one, other = Crew(T, W), Crew(T, W)
        for many in range(1, 4):
            one(((0, 1), (2, 0)))
            self.assertEqual([one.tries, other.tries], [many, 0])

    def test_numbers_above_the_last_tick(self):
        tree = chain(12, LONGEST)
        crew = Crew(tree, ((0, None),) * 12)
        table = tuple(LAST_TICK + mark * LONGEST for mark in range(12))
        self.check_falls(crew(((0, LAST_TICK),)), tree, table)


if __name__ == "__main__":
    unittest.main()
