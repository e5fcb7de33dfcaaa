"""Tests of marktopples.windows: points [7] and [8], and what points [2] (b), (c) and [3] say of them."""

import itertools
import random
import unittest

from marktopples import windows as windows_file
from marktopples.errors import FallError, NoTable
from marktopples.windows import earliest, find_pair, fits, greatest_difference, is_windows, latest, order_of
from tests.samples import (
    LAST_TICK, LIMIT, LONGEST, SEVERAL, SMALL, T, W, any_values, chain, check_bool, check_call, check_interface,
    check_raises, plain_distances, plain_fits, random_tree, random_windows, star, tables_to, windows_around,
)


def plain_pair(tree, windows):
    """Return the smallest pair, found by a search over all pairs of marks."""
    far = plain_distances(tree)
    pairs = [
        (one, other) for one, other in itertools.product(range(len(windows)), repeat=2)
        if one != other and windows[other][1] is not None
        and windows[one][0] > windows[other][1] + far[one][other]
    ]
    return min(pairs, default=None)


def plain_order(differences):
    """Return the order of two marks from the differences of their numbers in all tables."""
    if all(difference < 0 for difference in differences):
        return "always"
    return "sometimes" if any(difference < 0 for difference in differences) else "never"


def small_cases():
    """Return small trees with windows, and with all tables that fit, as far as their numbers matter."""
    chance = random.Random(21)
    found = []
    for tree in SMALL:
        top = 9 if len(tree) > 1 else 12
        tables = tables_to(tree, top)
        # Above the windows there is room for the differences that the rows allow.
        last = top - sum(length for _, length in tree)
        low_tables = [table for table in tables if max(table) <= last // 2]
        many = 12 if len(tree) > 2 else 50
        all_windows = [random_windows(chance, len(tree) + 1, last) for _ in range(many)]
        all_windows += [windows_around(chance, chance.choice(low_tables), last // 2) for _ in range(many // 2)]
        for windows in all_windows:
            found.append((tree, windows, [table for table in tables if plain_fits(tree, windows, table)]))
    return found


SMALL_CASES = small_cases()


def random_cases(seed):
    """Return trees of up to twelve marks with windows, with and without a table."""
    chance = random.Random(seed)
    found = []
    for _ in range(300):
        marks = chance.randint(1, 12)
        tree = random_tree(chance, marks, chance.choice([1, 5, 40, LONGEST]))
        found.append((tree, random_windows(chance, marks, chance.choice([1, 9, 50, LAST_TICK]))))
        far = plain_distances(tree)[chance.randint(0, marks - 1)]
        found.append((tree, windows_around(chance, [number + 3 for number in far], chance.choice([0, 3, 20, LONGEST]))))
    return found


class ExampleTest(unittest.TestCase):

    def test_is_windows_and_fits(self):
        found = [is_windows(T, W), is_windows(T, ((0, 4),)), fits(T, W, (1, 3, 0)), fits(T, W, (0, 2, 0))]
        self.assertEqual(repr(found), "[True, False, True, False]")

    def test_find_pair(self):
        self.assertEqual(repr([find_pair(T, W), find_pair(T, ((5, 9), (0, 2), (0, 9)))]), "[None, (0, 1)]")

    def test_earliest_and_latest(self):
        found = [earliest(T, W), latest(T, W), latest((), ((3, None),))]
        self.assertEqual(repr(found), "[(1, 3, 0), (4, 6, 4), (None,)]")

    def test_greatest_difference(self):
        found = [greatest_difference(T, W, 0, 2), greatest_difference(T, W, 2, 0), greatest_difference(T, W, 1, 1)]
        self.assertEqual(repr(found), "[4, 3, 0]")

    def test_order_of(self):
        found = [order_of(T, W, 0, 2), order_of(T, ((0, 1), (3, 9), (0, 9)), 0, 1), order_of(T, W, 1, 1)]
        self.assertEqual(repr(found), "['sometimes', 'always', 'never']")


class InterfaceTest(unittest.TestCase):

    def test_functions_are_defined_in_the_file(self):
        check_interface(self, windows_file, {
            "is_windows": ["tree", "value"],
            "fits": ["tree", "windows", "value"],
            "find_pair": ["tree", "windows"],
            "earliest": ["tree", "windows"],
            "latest": ["tree", "windows"],
            "greatest_difference": ["tree", "windows", "one", "other"],
            "order_of": ["tree", "windows", "one", "other"],
        })


class IsWindowsTest(unittest.TestCase):

    def check_each_place(self, window, expected):
        for tree in ((), ((0, 5),), T, star(12)):
            marks = len(tree) + 1
            for mark in range(marks):
                windows = [(0, 9)] * marks
                check_bool(self, True, is_windows, tree, tuple(windows))
                windows[mark] = window
                check_bool(self, expected, is_windows, tree, tuple(windows))

    def test_windows(self):
        for window in [
            (0, None), (0, 0), (0, 1), (7, 7), (7, 8), (7, None), (0, LAST_TICK), (1, LAST_TICK),
            (LAST_TICK, LAST_TICK), (LAST_TICK, None), (LAST_TICK - 1, LAST_TICK),
        ]:
            self.check_each_place(window, True)

    def test_last_that_is_less_than_least(self):
        for window in [(1, 0), (7, 6), (7, 0), (7, -1), (LAST_TICK, LAST_TICK - 1), (LAST_TICK, 0)]:
            self.check_each_place(window, False)

    def test_ticks_out_of_bounds(self):
        for window in [
            (-1, None), (-1, 0), (-1, -1), (-5, 5), (0, -1), (LAST_TICK + 1, None), (LAST_TICK + 1, LAST_TICK + 1),
            (0, LAST_TICK + 1), (LAST_TICK, LAST_TICK + 1), (0, LIMIT), (LIMIT, None), (0, 10 ** 40 - 1),
            (10 ** 40 - 1, None), (1 - 10 ** 40, 0),
        ]:
            self.check_each_place(window, False)

    def test_bools_are_not_numbers(self):
        for window, bad in [
            ((0, 0), (False, 0)), ((0, 0), (0, False)), ((0, 0), (False, False)), ((1, 1), (True, 1)),
            ((1, 1), (1, True)), ((1, 1), (True, True)), ((0, None), (False, None)), ((1, None), (True, None)),
            ((0, 1), (0, True)), ((0, 1), (False, 1)), ((0, 1), (False, True)), ((1, 9), (True, 9)),
        ]:
            self.check_each_place(window, True)
            self.check_each_place(bad, False)
            self.check_each_place(window, True)

    def test_windows_of_other_forms(self):
        for window in [(), (0,), (0, 1, 1), (0, 1, None), (0, 0) * 2, [0, 1], [0, None], None, 0, "0:1", {}, (None, 1)]:
            self.check_each_place(window, False)
        for window in [(None, None), (None, 0), ("0", None), (0, "1"), (0, [1]), (0, (1,)), ((0,), None), (0, {})]:
            self.check_each_place(window, False)

    def test_any_value_as_a_window(self):
        for value in any_values():
            with self.subTest(value=value):
                self.check_each_place(value, False)

    def test_any_value_as_least_and_last(self):
        for value in any_values():
            is_number = type(value) is int
            check_bool(self, is_number and 0 <= value <= LAST_TICK, is_windows, (), ((value, None),))
            check_bool(self, is_number and 0 <= value <= 5, is_windows, (), ((value, 5),))
            check_bool(self, value is None or is_number and 0 <= value <= LAST_TICK, is_windows, (), ((0, value),))

    def test_too_few_and_too_many_windows(self):
        for tree in SEVERAL:
            marks = len(tree) + 1
            check_bool(self, True, is_windows, tree, ((0, 5),) * marks)
            for many in {0, marks - 1, marks + 1, marks + 2, 900} - {marks}:
                check_bool(self, False, is_windows, tree, ((0, 5),) * many)
                check_bool(self, False, is_windows, tree, ((0, None),) * many)

    def test_lists(self):
        for tree in SEVERAL:
            check_bool(self, False, is_windows, tree, [(0, 5)] * (len(tree) + 1))
            check_bool(self, False, is_windows, tree, ([0, 5],) * (len(tree) + 1))

    def test_any_values(self):
        for tree in ((), ((0, 5),), T, chain(12)):
            for value in any_values():
                with self.subTest(tree=tree, value=value):
                    check_bool(self, False, is_windows, tree, value)

    def test_windows_without_a_table_are_windows(self):
        check_bool(self, True, is_windows, T, ((5, 9), (0, 2), (0, 9)))
        check_bool(self, True, is_windows, ((0, 1),), ((0, 0), (LAST_TICK, None)))


class FitsTest(unittest.TestCase):

    def test_small_tables(self):
        chance = random.Random(22)
        for tree in SMALL:
            for _ in range(8):
                windows = random_windows(chance, len(tree) + 1, 4)
                for table in itertools.product(range(5), repeat=len(tree) + 1):
                    check_bool(self, plain_fits(tree, windows, table), fits, tree, windows, table)

    def test_ends_of_a_window(self):
        for tree in ((), ((0, LONGEST),), T, star(12, 9), chain(12, LONGEST)):
            marks = len(tree) + 1
            for mark in range(marks):
                windows = [(0, None)] * marks
                windows[mark] = (5, 8)
                for number in (4, 5, 6, 8, 9):
                    table = (number,) * marks
                    check_bool(self, 5 <= number <= 8, fits, tree, tuple(windows), table)
                windows[mark] = (5, 5)
                for number in (4, 5, 6):
                    check_bool(self, number == 5, fits, tree, tuple(windows), (number,) * marks)
                windows[mark] = (5, None)
                for number in (4, 5, 6, LAST_TICK, LAST_TICK + 1, LIMIT, LIMIT + 1):
                    check_bool(self, 5 <= number <= LIMIT, fits, tree, tuple(windows), (number,) * marks)

    def test_numbers_above_the_last_tick_fit_where_last_is_none(self):
        for tree in SEVERAL:
            marks = len(tree) + 1
            for number in (LAST_TICK + 1, LIMIT - 1, LIMIT):
                table = (number,) * marks
                check_bool(self, True, fits, tree, ((LAST_TICK, None),) * marks, table)
                check_bool(self, False, fits, tree, ((0, None),) * (marks - 1) + ((0, LAST_TICK),), table)
        check_bool(self, True, fits, ((0, LONGEST),), ((0, LAST_TICK), (0, None)), (LAST_TICK, LAST_TICK + LONGEST))

    def test_tables_that_are_not_possible(self):
        check_bool(self, True, fits, T, ((0, None),) * 3, (0, 2, 5))
        check_bool(self, False, fits, T, ((0, None),) * 3, (0, 3, 5))
        check_bool(self, False, fits, T, ((0, None),) * 3, (0, 2, 6))
        check_bool(self, False, fits, T, W, (0, 9, 0))
        check_bool(self, False, fits, ((0, 1),), ((0, 0), (2, 2)), (0, 2))

    def test_any_values(self):
        for tree in ((), ((0, 5),), T, chain(12)):
            for value in any_values():
                with self.subTest(tree=tree, value=value):
                    expected = (tree, value) in [((), (0,)), (T, (0, 1, 2))] and type(value[0]) is int
                    check_bool(self, expected, fits, tree, ((0, None),) * (len(tree) + 1), value)

    def test_any_value_as_a_number(self):
        for value in any_values():
            expected = type(value) is int and 0 <= value <= 6
            check_bool(self, expected, fits, T, ((0, 9), (0, 9), (0, None)), (2, 3, value))

    def test_bools_and_lists(self):
        windows = ((0, 3), (0, None), (1, 1))
        check_bool(self, True, fits, T, windows, (0, 1, 1))
        for table in [(False, 1, 1), (0, True, 1), (0, 1, True), [0, 1, 1], (0, 1, [1]), ([0], 1, 1)]:
            check_bool(self, False, fits, T, windows, table)
        check_bool(self, True, fits, T, windows, (0, 1, 1))

    def test_too_few_and_too_many_numbers(self):
        for table in [(), (1,), (1, 3), (1, 3, 0, 0), (1, 3, 0) * 4]:
            check_bool(self, False, fits, T, W, table)


class FindPairTest(unittest.TestCase):

    def check_pair(self, tree, windows):
        found = check_call(self, find_pair, tree, windows)
        self.assertEqual(found, plain_pair(tree, windows), (tree, windows))
        return found

    def test_random_windows(self):
        found = [self.check_pair(tree, windows) for tree, windows in random_cases(23)]
        self.assertGreater(sum(pair is None for pair in found), 100)
        self.assertGreater(sum(pair is not None for pair in found), 100)

    def test_ends_that_just_exclude_all_tables(self):
        for tree in SEVERAL:
            far = plain_distances(tree)
            for one, other in itertools.permutations(range(len(tree) + 1), 2):
                for last in (0, 7, LAST_TICK - far[one][other] - 1):
                    windows = [(0, None)] * (len(tree) + 1)
                    windows[other] = (0, last)
                    windows[one] = (last + far[one][other], None)
                    self.assertIsNone(self.check_pair(tree, tuple(windows)))
                    windows[one] = (last + far[one][other] + 1, None)
                    self.assertEqual(self.check_pair(tree, tuple(windows)), (one, other))

    def test_smallest_of_several_pairs(self):
        self.assertEqual(find_pair(chain(3), ((9, 9), (0, 0), (0, 0))), (0, 1))
        self.assertEqual(find_pair(chain(3), ((0, 0), (9, 9), (0, 0))), (1, 0))
        self.assertEqual(find_pair(chain(3), ((0, 0), (0, 0), (9, 9))), (2, 0))
        self.assertEqual(find_pair(chain(3), ((9, None), (9, None), (0, 0))), (0, 2))
        self.assertEqual(find_pair(chain(3), ((0, None), (9, None), (9, 9))), None)
        self.assertEqual(find_pair(star(12), ((0, None),) + ((9, None),) * 10 + ((0, 1),)), (1, 11))

    def test_no_window_with_a_last_tick(self):
        for tree in SEVERAL:
            for least in (0, 3, LAST_TICK):
                windows = tuple((least * (mark % 2), None) for mark in range(len(tree) + 1))
                self.assertIsNone(self.check_pair(tree, windows))

    def test_one_mark_has_no_pair(self):
        for window in ((0, 0), (3, 3), (LAST_TICK, LAST_TICK), (0, None)):
            self.assertIsNone(check_call(self, find_pair, (), (window,)))

    def test_either_a_table_fits_or_a_pair_excludes_all(self):
        """Guarantee (b)."""
        empty = 0
        for tree, windows, tables in SMALL_CASES:
            found = self.check_pair(tree, windows)
            self.assertIs(found is None, bool(tables), (tree, windows))
            empty += not tables
        self.assertGreater(empty, 50)
        self.assertGreater(len(SMALL_CASES) - empty, 50)

    def test_ticks_at_the_bound_with_long_rows(self):
        tree = chain(12, LONGEST)
        first = LAST_TICK - 11 * LONGEST
        self.assertIsNone(find_pair(tree, ((first, first),) + ((0, None),) * 10 + ((LAST_TICK, None),)))
        self.assertEqual(find_pair(tree, ((0, first - 1),) + ((0, None),) * 10 + ((LAST_TICK, None),)), (11, 0))


class EndsTest(unittest.TestCase):

    def check_ends(self, tree, windows):
        """Return whether some table fits; compare both ends with a search over all marks."""
        pair = plain_pair(tree, windows)
        if pair is not None:
            check_raises(self, NoTable, "pair", pair, earliest, tree, windows)
            check_raises(self, NoTable, "pair", pair, latest, tree, windows)
            return False
        far = plain_distances(tree)
        marks = range(len(windows))
        first = check_call(self, earliest, tree, windows)
        self.assertEqual(first, tuple(max(windows[one][0] - far[one][mark] for one in marks) for mark in marks))
        self.assertTrue(plain_fits(tree, windows, first))
        self.assertIs(fits(tree, windows, first), True)
        ends = [one for one in marks if windows[one][1] is not None]
        last = check_call(self, latest, tree, windows)
        if not ends:
            self.assertEqual(last, (None,) * len(windows))
        else:
            self.assertEqual(last, tuple(min(windows[one][1] + far[one][mark] for one in ends) for mark in marks))
            self.assertIs(fits(tree, windows, last), True)
        return True

    def test_random_windows(self):
        found = [self.check_ends(tree, windows) for tree, windows in random_cases(24)]
        self.assertGreater(sum(found), 100)
        self.assertGreater(len(found) - sum(found), 100)

    def test_against_all_tables(self):
        for tree, windows, tables in SMALL_CASES:
            if self.check_ends(tree, windows):
                columns = list(zip(*tables))
                self.assertEqual(earliest(tree, windows), tuple(min(column) for column in columns))
                if any(last is not None for _, last in windows):
                    self.assertEqual(latest(tree, windows), tuple(max(column) for column in columns), (tree, windows))

    def test_all_tables_lie_between_and_stay_when_two_are_put_together(self):
        """Guarantee (c)."""
        chance = random.Random(25)
        for tree, windows, tables in SMALL_CASES:
            if tables:
                first = earliest(tree, windows)
                last = latest(tree, windows)
                for table in tables:
                    self.assertTrue(all(low <= number for low, number in zip(first, table)))
                    self.assertTrue(all(high is None or number <= high for high, number in zip(last, table)))
                for _ in range(20):
                    one, other = chance.choice(tables), chance.choice(tables)
                    self.assertIs(fits(tree, windows, tuple(map(min, one, other))), True)
                    self.assertIs(fits(tree, windows, tuple(map(max, one, other))), True)

    def test_no_window_with_a_last_tick(self):
        for tree in SEVERAL:
            for least in (0, 3, LAST_TICK):
                for mark in range(len(tree) + 1):
                    windows = [(0, None)] * (len(tree) + 1)
                    windows[mark] = (least, None)
                    self.assertTrue(self.check_ends(tree, tuple(windows)))
                    self.assertEqual(latest(tree, tuple(windows)), (None,) * len(windows))

    def test_only_one_window_with_a_last_tick(self):
        for tree in SEVERAL:
            far = plain_distances(tree)
            for mark in range(len(tree) + 1):
                for end in (0, 6, LAST_TICK):
                    windows = [(0, None)] * (len(tree) + 1)
                    windows[mark] = (0, end)
                    self.assertTrue(self.check_ends(tree, tuple(windows)))
                    self.assertEqual(latest(tree, tuple(windows)), tuple(end + way for way in far[mark]))

    def test_ticks_at_the_bound_with_long_rows(self):
        tree = chain(12, LONGEST)
        windows = ((0, LAST_TICK),) + ((0, None),) * 10 + ((LAST_TICK, None),)
        self.assertTrue(self.check_ends(tree, windows))
        self.assertEqual(earliest(tree, windows), tuple(LAST_TICK - k * LONGEST for k in range(11, -1, -1)))
        self.assertEqual(latest(tree, windows), tuple(LAST_TICK + k * LONGEST for k in range(12)))
        self.assertEqual(latest(tree, windows)[11], LAST_TICK + 11 * LONGEST)

    def test_one_mark(self):
        for window in ((0, 0), (3, 8), (LAST_TICK, LAST_TICK)):
            self.assertEqual(earliest((), (window,)), (window[0],))
            self.assertEqual(latest((), (window,)), (window[1],))

    def test_no_table(self):
        for function in (earliest, latest):
            windows = ((5, 9), (0, 2), (0, 9))
            check_raises(self, NoTable, "pair", (0, 1), function, T, windows)
            with self.assertRaises(FallError):
                function(T, windows)


class DifferenceTest(unittest.TestCase):

    def check_no_table(self, tree, windows):
        pair = find_pair(tree, windows)
        self.assertIsNotNone(pair)
        for one, other in itertools.product(range(len(windows)), repeat=2):
            check_raises(self, NoTable, "pair", pair, greatest_difference, tree, windows, one, other)
            check_raises(self, NoTable, "pair", pair, order_of, tree, windows, one, other)

    def test_against_all_tables(self):
        orders = []
        for tree, windows, tables in SMALL_CASES:
            if not tables:
                self.check_no_table(tree, windows)
                continue
            for one, other in itertools.product(range(len(windows)), repeat=2):
                differences = {table[one] - table[other] for table in tables}
                found = check_call(self, greatest_difference, tree, windows, one, other)
                self.assertEqual(found, max(differences), (tree, windows, one, other))
                self.assertIs(type(found), int)
                order = check_call(self, order_of, tree, windows, one, other)
                self.assertEqual(order, plain_order(differences), (tree, windows, one, other))
                orders.append(order)
        for order in ("always", "sometimes", "never"):
            self.assertGreater(orders.count(order), 50)

    def test_random_windows(self):
        for tree, windows in random_cases(26)[:200]:
            if plain_pair(tree, windows) is not None:
                self.check_no_table(tree, windows)
                continue
            far = plain_distances(tree)
            first = earliest(tree, windows)
            last = latest(tree, windows)
            for one, other in itertools.product(range(len(windows)), repeat=2):
                expected = far[one][other]
                if last[one] is not None:
                    expected = min(expected, last[one] - first[other])
                self.assertEqual(greatest_difference(tree, windows, one, other), expected)

    def test_a_mark_and_itself(self):
        for tree, windows in random_cases(27)[:100]:
            if plain_pair(tree, windows) is None:
                for mark in range(len(windows)):
                    self.assertEqual(greatest_difference(tree, windows, mark, mark), 0)
                    self.assertEqual(order_of(tree, windows, mark, mark), "never")

    def test_no_window_with_a_last_tick(self):
        for tree in SEVERAL:
            far = plain_distances(tree)
            for windows in (((0, None),) * (len(tree) + 1), ((LAST_TICK, None),) * (len(tree) + 1)):
                for one, other in itertools.product(range(len(windows)), repeat=2):
                    self.assertEqual(greatest_difference(tree, windows, one, other), far[one][other])
                    expected = "never" if one == other else "sometimes"
                    self.assertEqual(order_of(tree, windows, one, other), expected)

    def test_a_negative_difference(self):
        self.assertEqual(greatest_difference(((0, 9),), ((0, 2), (5, 7)), 0, 1), -3)
        self.assertEqual(greatest_difference(((0, 9),), ((0, 2), (5, 7)), 1, 0), 7)
        self.assertEqual(greatest_difference(((0, 6),), ((0, 2), (5, 9)), 1, 0), 6)

    def test_order_where_both_may_fall_at_the_same_tick(self):
        tree = ((0, 9),)
        self.assertEqual(order_of(tree, ((0, 4), (5, 9)), 0, 1), "always")
        self.assertEqual(order_of(tree, ((0, 5), (5, 9)), 0, 1), "sometimes")
        self.assertEqual(order_of(tree, ((0, 4), (5, 9)), 1, 0), "never")
        self.assertEqual(order_of(tree, ((0, 5), (5, 9)), 1, 0), "never")
        self.assertEqual(order_of(tree, ((0, 6), (5, 9)), 1, 0), "sometimes")
        self.assertEqual(order_of(tree, ((5, 5), (5, 5)), 0, 1), "never")

    def test_ticks_at_the_bound_with_long_rows(self):
        tree = chain(12, LONGEST)
        windows = ((0, LAST_TICK),) + ((0, None),) * 10 + ((LAST_TICK, None),)
        self.assertEqual(greatest_difference(tree, windows, 0, 11), 0)
        self.assertEqual(greatest_difference(tree, windows, 11, 0), 11 * LONGEST)
        self.assertEqual(order_of(tree, windows, 0, 11), "sometimes")
        self.assertEqual(order_of(tree, windows, 11, 0), "never")


if __name__ == "__main__":
    unittest.main()
