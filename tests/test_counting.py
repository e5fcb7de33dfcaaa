"""Tests of marktopples.counting: point [12], and what point [3] says of it."""

import inspect
import itertools
import random
import unittest

from marktopples import counting
from marktopples.counting import count_tables, each_table
from marktopples.errors import FallError, NoLast, TooLarge
from marktopples.windows import fits
from tests.samples import (
    LAST_TICK, LONGEST, SEVERAL, SMALL, T, W, chain, check_call, check_interface, check_raises, plain_distances,
    plain_fits, random_tree, random_windows, star, tables_to, windows_around,
)


def with_last(chance, windows, last):
    return tuple((least, chance.randint(least, last) if end is None else end) for least, end in windows)


def small_cases():
    """Return small trees, windows with ticks up to 4, and all tables that fit, in ascending order."""
    chance = random.Random(81)
    found = []
    for tree in SMALL:
        tables = tables_to(tree, 4)
        for _ in range(15):
            windows = with_last(chance, random_windows(chance, len(tree) + 1, 4), 4)
            found.append((tree, windows, sorted(table for table in tables if plain_fits(tree, windows, table))))
        for _ in range(5):
            windows = with_last(chance, windows_around(chance, chance.choice(tables), 2), 4)
            windows = tuple((least, min(last, 4)) for least, last in windows)
            found.append((tree, windows, sorted(table for table in tables if plain_fits(tree, windows, table))))
    return found


SMALL_CASES = small_cases()


def plain_count(tree, windows):
    """Return the number of tables that fit, mark by mark, where each mark has only few numbers."""
    ways = [{number: 1 for number in range(least, last + 1)} for least, last in windows]
    for row in range(len(tree) - 1, -1, -1):
        parent, length = tree[row]
        hanging = ways[row + 1]
        ways[parent] = {
            number: count * sum(more for other, more in hanging.items() if abs(number - other) <= length)
            for number, count in ways[parent].items()
        }
    return sum(ways[0].values())


class ExampleTest(unittest.TestCase):

    def test_count_tables(self):
        found = [
            count_tables(T, ((0, 1), (0, 1), (0, 1))), count_tables(((0, 1),), ((0, 2), (0, 2))),
            count_tables((), ((3, 9),)),
        ]
        self.assertEqual(repr(found), "[8, 7, 7]")

    def test_each_table(self):
        self.assertEqual(repr(list(each_table(((0, 1),), ((0, 1), (1, 2))))), "[(0, 1), (1, 1), (1, 2)]")


class InterfaceTest(unittest.TestCase):

    def test_functions_are_defined_in_the_file(self):
        check_interface(self, counting, {"count_tables": ["tree", "windows"], "each_table": ["tree", "windows"]})

    def test_each_table_is_a_generator(self):
        self.assertTrue(inspect.isgeneratorfunction(each_table))
        self.assertTrue(inspect.isgenerator(each_table(T, W)))


class CountTablesTest(unittest.TestCase):

    def test_against_all_tables(self):
        empty = 0
        for tree, windows, tables in SMALL_CASES:
            found = check_call(self, count_tables, tree, windows)
            self.assertEqual(found, len(tables), (tree, windows))
            self.assertIs(type(found), int)
            empty += not tables
        self.assertGreater(empty, 50)
        self.assertGreater(len(SMALL_CASES) - empty, 50)

    def test_random_trees(self):
        chance = random.Random(82)
        for _ in range(150):
            tree = random_tree(chance, chance.randint(1, 12), chance.choice([1, 4, 30, LONGEST]))
            last = chance.choice([3, 20, 60])
            windows = with_last(chance, random_windows(chance, len(tree) + 1, last), last)
            self.assertEqual(count_tables(tree, windows), plain_count(tree, windows), (tree, windows))
        for _ in range(100):
            tree = random_tree(chance, chance.randint(1, 12), chance.choice([1, 4, 30]))
            ways = plain_distances(tree)[0]
            windows = windows_around(chance, [min(270, number) for number in ways], 12)
            windows = with_last(chance, windows, 300)
            self.assertEqual(count_tables(tree, windows), plain_count(tree, windows), (tree, windows))

    def test_no_table_fits(self):
        self.assertEqual(count_tables(T, ((5, 9), (0, 2), (0, 9))), 0)
        self.assertEqual(count_tables(((0, 1),), ((0, 0), (2, 2))), 0)
        self.assertEqual(count_tables(((0, 299),), ((0, 0), (300, 300))), 0)
        self.assertEqual(count_tables(((0, 300),), ((0, 0), (300, 300))), 1)
        self.assertEqual(count_tables(star(12), ((0, 0),) * 11 + ((2, 2),)), 0)

    def test_one_mark(self):
        for least, last in [(0, 0), (0, 300), (300, 300), (3, 9), (1, 2)]:
            self.assertEqual(count_tables((), ((least, last),)), last - least + 1)

    def test_two_marks_with_all_lengths(self):
        for length in (1, 2, 5, 299, 300, 301, LONGEST):
            expected = sum(abs(one - other) <= length for one, other in itertools.product(range(301), repeat=2))
            self.assertEqual(count_tables(((0, length),), ((0, 300),) * 2), expected)

    def test_rows_as_long_as_all_windows(self):
        for tree in (chain(12, 300), star(12, 300), chain(12, LONGEST), star(12, LONGEST)):
            self.assertEqual(count_tables(tree, ((0, 300),) * 12), 301 ** 12)
            self.assertEqual(count_tables(tree, ((100, 200),) * 12), 101 ** 12)
            self.assertEqual(count_tables(tree, tuple((0, mark) for mark in range(12))), 479001600)

    def test_twelve_marks_with_windows_of_301_ticks(self):
        windows = ((0, 300),) * 12
        for tree in (chain(12), star(12), chain(12, 7), star(12, 299), SEVERAL[-2]):
            self.assertEqual(count_tables(tree, windows), plain_count(tree, windows))
        self.assertEqual(count_tables(star(12), windows), 299 * 3 ** 11 + 2 * 2 ** 11)


class CountErrorsTest(unittest.TestCase):

    def test_the_first_mark_without_a_last_tick(self):
        for tree in SEVERAL:
            marks = len(tree) + 1
            for first in range(marks):
                for last in (None, 9, 300):
                    windows = ((0, 9),) * first + ((0, None),) + ((0, last),) * (marks - first - 1)
                    check_raises(self, NoLast, "mark", first, count_tables, tree, windows)

    def test_it_comes_ahead_of_a_great_tick(self):
        check_raises(self, NoLast, "mark", 2, count_tables, T, ((0, 301), (0, 301), (0, None)))
        check_raises(self, NoLast, "mark", 0, count_tables, T, ((0, None), (0, 301), (0, LAST_TICK)))
        check_raises(self, NoLast, "mark", 1, count_tables, T, ((400, 400), (0, None), (0, 1)))

    def test_last_ticks_300_and_301(self):
        for tree in SEVERAL:
            marks = len(tree) + 1
            for mark in range(marks):
                for last in (300, 301, 302, LAST_TICK):
                    windows = ((300, 300),) * mark + ((300, last),) + ((300, 300),) * (marks - mark - 1)
                    if last == 300:
                        self.assertEqual(count_tables(tree, windows), 1)
                    else:
                        check_raises(self, TooLarge, "bound", 300, count_tables, tree, windows)

    def test_the_errors_come_ahead_of_no_table(self):
        check_raises(self, NoLast, "mark", 2, count_tables, T, ((5, 9), (0, 2), (0, None)))
        check_raises(self, TooLarge, "bound", 300, count_tables, T, ((5, 9), (0, 2), (0, 301)))
        check_raises(self, TooLarge, "bound", 300, count_tables, T, ((301, 301), (0, 2), (0, 3)))

    def test_they_are_fall_errors(self):
        for windows in (((0, None),), ((0, 301),)):
            with self.assertRaises(FallError):
                count_tables((), windows)


class EachTableTest(unittest.TestCase):

    def check_first(self, tree, windows, expected):
        """The first tables are the expected ones, in two goes at the same time, too."""
        one = each_table(tree, windows)
        other = each_table(tree, windows)
        for table in expected:
            self.assertEqual(next(one), table)
            self.assertEqual(next(other), table)

    def test_against_all_tables(self):
        for tree, windows, tables in SMALL_CASES:
            before = repr((tree, windows))
            found = list(each_table(tree, windows))
            self.assertEqual(found, tables, (tree, windows))
            self.assertEqual(list(each_table(tree, windows)), tables)
            self.assertEqual(repr((tree, windows)), before)
            self.assertTrue(all(type(table) is tuple for table in found))
            self.assertEqual(len(found), count_tables(tree, windows))

    def test_larger_trees(self):
        chance = random.Random(83)
        for _ in range(60):
            tree = random_tree(chance, chance.randint(5, 12), chance.choice([1, 3, LONGEST]))
            ways = plain_distances(tree)[chance.randint(0, len(tree))]
            windows = with_last(chance, windows_around(chance, ways, 1), max(ways) + 1)
            windows = tuple((least, min(last, least + 1)) for least, last in windows)
            if max(last for _, last in windows) <= 300:
                found = list(each_table(tree, windows))
                self.assertEqual(len(found), count_tables(tree, windows))
                self.assertEqual(found, sorted(set(found)))
                self.assertTrue(all(fits(tree, windows, table) for table in found))

    def test_no_table_fits(self):
        self.assertEqual(list(each_table(T, ((5, 9), (0, 2), (0, 9)))), [])
        self.assertEqual(list(each_table(T, ((5, None), (0, 2), (0, None)))), [])
        self.assertEqual(list(each_table(((0, 1),), ((0, 0), (LAST_TICK, None)))), [])

    def test_first_tables_of_windows_without_last_ticks(self):
        chance = random.Random(84)
        for tree in SMALL[1:]:
            highest = max(plain_distances(tree)[0])
            tables = tables_to(tree, highest + 2)
            for _ in range(6):
                windows = tuple((chance.randint(0, 1), None) for _ in range(len(tree) + 1))
                # All tables with a number of mark 0 up to 2 have no number above these.
                first = sorted(table for table in tables if table[0] <= 2 and plain_fits(tree, windows, table))
                self.check_first(tree, windows, first)

    def test_first_tables_of_some_windows_without_last_ticks(self):
        chance = random.Random(85)
        for tree in SMALL[1:]:
            highest = max(plain_distances(tree)[0])
            tables = tables_to(tree, highest + 2)
            for _ in range(6):
                windows = random_windows(chance, len(tree) + 1, 2)
                first = sorted(table for table in tables if table[0] <= 2 and plain_fits(tree, windows, table))
                self.check_first(tree, windows, first)

    def test_first_tables_without_all_others(self):
        self.check_first((), ((7, None),), [(7,), (8,), (9,), (10,)])
        self.check_first((), ((0, LAST_TICK),), [(0,), (1,), (2,)])
        self.check_first((), ((LAST_TICK, None),), [(LAST_TICK,), (LAST_TICK + 1,)])
        for tree in (chain(12, LONGEST), star(12, LONGEST)):
            start = (0,) * 11
            self.check_first(tree, ((0, None),) * 12, [start + (number,) for number in range(50)])
            self.check_first(tree, ((0, LAST_TICK),) * 12, [start + (number,) for number in range(50)])
        self.check_first(chain(12), ((0, None),) * 12, [
            (0,) * 12, (0,) * 11 + (1,), (0,) * 10 + (1, 0), (0,) * 10 + (1, 1), (0,) * 10 + (1, 2),
            (0,) * 9 + (1, 0, 0), (0,) * 9 + (1, 0, 1),
        ])

    def test_no_way_that_ends_before_the_last_mark(self):
        tree = chain(12, LONGEST)
        first = LAST_TICK - 11 * LONGEST
        steps = tuple(first + mark * LONGEST for mark in range(12))
        windows = ((0, LAST_TICK),) + ((0, None),) * 10 + ((LAST_TICK, LAST_TICK),)
        self.check_first(tree, windows, [steps, (first + 1,) + steps[1:], (first + 1, steps[1] + 1) + steps[2:]])
        windows = ((0, first),) + ((0, LAST_TICK),) * 10 + ((LAST_TICK, LAST_TICK),)
        self.assertEqual(list(each_table(tree, windows)), [steps])

    def test_it_is_left_early(self):
        found = []
        for table in each_table(T, ((0, None),) * 3):
            found.append(table)
            if len(found) == 3:
                break
        self.assertEqual(found, [(0, 0, 0), (0, 0, 1), (0, 0, 2)])


if __name__ == "__main__":
    unittest.main()
