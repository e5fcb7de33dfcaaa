"""Tests of marktopples.trees: point [4], and what points [1] and [3] say of its functions."""

import copy
import inspect
import unittest

from marktopples import trees
from marktopples.errors import FallError, TooLarge
from marktopples.trees import (
    distance_between, distances_of, hung, is_tree, joined, neighbours_of, tree_error, way_between,
)
from tests.samples import LONGEST, SEVERAL, T, chain, check_interface, plain_distances, shapes, star


def way_by_search(tree, one, other):
    """Return the way and its length, found from neighbour to neighbour."""
    ways = {one: ((one,), 0)}
    queue = [one]
    for mark in queue:
        for index, (parent, length) in enumerate(tree):
            for near, far in ((parent, index + 1), (index + 1, parent)):
                if near == mark and far not in ways:
                    way, distance = ways[mark]
                    ways[far] = (way + (far,), distance + length)
                    queue.append(far)
    return ways[other]


class Case(unittest.TestCase):

    def check_tree(self, value, error):
        """Both functions give the expected answer twice and leave the value as it is."""
        before = copy.deepcopy(value)
        for _ in range(2):
            found = tree_error(value)
            self.assertEqual(found, error)
            if error is not None:
                self.assertIs(type(found), tuple)
                self.assertIs(type(found[0]), type(error[0]))
            self.assertIs(is_tree(value), error is None)
        self.assertEqual(repr(value), repr(before))


class ExampleTest(unittest.TestCase):

    def test_is_tree(self):
        found = [is_tree(T), tree_error(((0, 2), (2, 3))), tree_error(((0, 0),))]
        self.assertEqual(repr(found), "[True, (1, 'row'), (0, 'row')]")

    def test_distance_between(self):
        found = [distance_between(T, 0, 2), way_between(T, 2, 0), way_between(T, 1, 1)]
        self.assertEqual(repr(found), "[5, (2, 1, 0), (1,)]")

    def test_hung(self):
        found = [hung(T, 0, 7), joined(T, 2, ((0, 4),), length=9)]
        self.assertEqual(repr(found), "[((0, 2), (1, 3), (0, 7)), ((0, 2), (1, 3), (2, 9), (3, 4))]")


class InterfaceTest(unittest.TestCase):

    def test_functions_are_defined_in_the_file(self):
        parameters = {
            "is_tree": ["value"],
            "tree_error": ["value"],
            "distance_between": ["tree", "one", "other"],
            "way_between": ["tree", "one", "other"],
            "hung": ["tree", "mark", "length"],
            "joined": ["tree", "mark", "other", "length"],
        }
        check_interface(self, trees, parameters)

    def test_length_of_joined_is_passed_by_keyword(self):
        length = inspect.signature(joined).parameters["length"]
        self.assertIs(length.kind, inspect.Parameter.KEYWORD_ONLY)
        self.assertEqual(length.default, 1)


class IsTreeTest(Case):

    def test_trees_of_one_to_twelve_marks(self):
        for marks in range(1, 13):
            for tree in (chain(marks), star(marks), chain(marks, LONGEST), star(marks, LONGEST)):
                with self.subTest(tree=tree):
                    self.check_tree(tree, None)

    def test_all_shapes_of_up_to_five_marks(self):
        for marks in range(1, 6):
            for tree in shapes(marks):
                self.check_tree(tree, None)

    def test_more_than_eleven_rows(self):
        for marks in (13, 14, 30, 900):
            with self.subTest(marks=marks):
                self.check_tree(star(marks), (None, "tree"))
                self.check_tree(chain(marks), (None, "tree"))

    def test_more_than_eleven_rows_come_before_a_wrong_row(self):
        self.check_tree((None,) + chain(12), (None, "tree"))
        self.check_tree(chain(12) + ((11, 0),), (None, "tree"))
        self.check_tree((None,) * 12, (None, "tree"))

    def test_first_wrong_row_at_each_place(self):
        for marks in range(2, 13):
            for index in range(marks - 1):
                for row in ((index + 1, 1), (-1, 1), (0, 0), None):
                    with self.subTest(marks=marks, index=index, row=row):
                        tree = star(marks)
                        self.check_tree(tree[:index] + (row,) + tree[index + 1:], (index, "row"))

    def test_first_of_several_wrong_rows(self):
        for index in range(11):
            with self.subTest(index=index):
                self.check_tree(star(12)[:index] + ((0, 0),) * (11 - index), (index, "row"))
                self.check_tree(star(12)[:index] + (None,) + ((99, 1),) * (10 - index), (index, "row"))

    def test_lengths(self):
        for index in range(11):
            for length in (1, 2, LONGEST - 1, LONGEST):
                with self.subTest(index=index, length=length):
                    self.check_tree(star(index + 1) + ((0, length),), None)
            for length in (0, -1, -LONGEST, LONGEST + 1, 2 * LONGEST, 10 ** 40 - 1, 1 - 10 ** 40):
                with self.subTest(index=index, length=length):
                    self.check_tree(star(index + 1) + ((0, length),), (index, "row"))

    def test_parents(self):
        for index in range(11):
            for parent in range(index + 1):
                with self.subTest(index=index, parent=parent):
                    self.check_tree(star(index + 1) + ((parent, 1),), None)
            for parent in (-1, -2, -index - 1, index + 1, index + 2, 12, 10 ** 40 - 1):
                with self.subTest(index=index, parent=parent):
                    self.check_tree(star(index + 1) + ((parent, 1),), (index, "row"))

    def test_bools_are_not_numbers(self):
        self.check_tree(((0, 1),), None)
        self.check_tree(((0, True),), (0, "row"))
        self.check_tree(((False, 1),), (0, "row"))
        self.check_tree(((False, True),), (0, "row"))
        self.check_tree(((0, 1),), None)
        self.check_tree(((0, 1), (1, 1)), None)
        self.check_tree(((0, 1), (True, 1)), (1, "row"))
        self.check_tree(((0, 1), (1, True)), (1, "row"))
        self.check_tree(((0, 1), (False, 1)), (1, "row"))
        self.check_tree(((0, 1), (0, False)), (1, "row"))
        self.check_tree(((0, 1), (1, 1)), None)

    def test_bools_asked_before_numbers(self):
        self.check_tree(((0, 7), (True, 7)), (1, "row"))
        self.check_tree(((0, 7), (1, 7)), None)
        self.check_tree(((0, 8), (1, True), (False, 8)), (1, "row"))
        self.check_tree(((0, 8), (1, 1), (False, 8)), (2, "row"))
        self.check_tree(((0, 8), (1, 1), (0, 8)), None)

    def test_bools_at_each_place(self):
        for index in range(11):
            for row in ((False, 1), (0, True), (True, 1), (0, False)):
                with self.subTest(index=index, row=row):
                    tree = star(12)
                    self.check_tree(tree, None)
                    self.check_tree(tree[:index] + (row,) + tree[index + 1:], (index, "row"))

    def test_lists_instead_of_tuples(self):
        for value in ([], [(0, 2), (1, 3)], [[0, 2], [1, 3]], [(0, 0)], [None] * 20):
            with self.subTest(value=value):
                self.check_tree(value, (None, "tree"))
        self.check_tree(([0, 2], (1, 3)), (0, "row"))
        self.check_tree(((0, 2), [1, 3]), (1, "row"))
        self.check_tree(((0, 2), (1, 3), []), (2, "row"))

    def test_rows_of_other_lengths(self):
        for row in ((), (0,), (1,), (0, 1, 1), (0, 1, None), (0, 1, 0, 1), (0,) * 900):
            with self.subTest(row=row):
                self.check_tree((row,), (0, "row"))
                self.check_tree(((0, 2), row, (1, 3)), (1, "row"))

    def test_rows_that_are_not_tuples_of_numbers(self):
        rows = [
            None, True, False, 0, 1, 10 ** 40 - 1, "", "01", "0:2", "ab", [], [0, 1], {}, {"a": 0, "b": 1},
            (None, 1), (0, None), ("0", 1), (0, "1"), ((0,), 1), (0, (1,)), ([], 1), (0, []), ({}, 1),
            (0, {}), ((0, 1),), ((0, 1), (0, 1)), [(0, 1)],
        ]
        for row in rows:
            with self.subTest(row=row):
                self.check_tree((row,), (0, "row"))
                self.check_tree(T + (row,), (2, "row"))

    def test_values_that_are_not_tuples(self):
        values = [
            None, True, False, 0, 1, -1, 10 ** 40 - 1, "", "0:2 1:3;", "x" * 2000, "a\nb", [], {},
            {"tree": T}, {"0": (0, 1)}, [T], [list(row) for row in T],
        ]
        for value in values:
            with self.subTest(value=value):
                self.check_tree(value, (None, "tree"))

    def test_tuples_that_are_no_trees(self):
        self.check_tree((None,), (0, "row"))
        self.check_tree((T,), (0, "row"))
        self.check_tree((0, 2), (0, "row"))
        self.check_tree((T, ((0, 1),)), (0, "row"))
        self.check_tree((None, "tree"), (0, "row"))
        self.check_tree((0,) * 1000, (None, "tree"))

    def test_deep_values(self):
        for value in (0, (0, 1), [], {"a": None}):
            for _ in range(18):
                value = (value,)
            with self.subTest(value=value):
                self.check_tree(value, (0, "row"))
                self.check_tree([value], (None, "tree"))
                self.check_tree(((0, 1), (0, value)), (1, "row"))

    def test_values_that_are_errors(self):
        self.assertEqual(tree_error(TooLarge(12)), (None, "tree"))
        self.assertEqual(tree_error((TooLarge(12),)), (0, "row"))
        self.assertIs(is_tree(TooLarge(12)), False)


class WayTest(unittest.TestCase):

    def check_all_pairs(self, tree):
        for one in range(len(tree) + 1):
            for other in range(len(tree) + 1):
                way, distance = way_by_search(tree, one, other)
                for _ in range(2):
                    found = distance_between(tree, one, other)
                    self.assertEqual(found, distance, (tree, one, other))
                    self.assertIs(type(found), int)
                    self.assertEqual(way_between(tree, one, other), way, (tree, one, other))

    def test_all_pairs_of_several_trees(self):
        for tree in SEVERAL:
            with self.subTest(tree=tree):
                self.check_all_pairs(tree)

    def test_all_pairs_of_all_small_trees(self):
        for marks in range(1, 7):
            for tree in shapes(marks):
                self.check_all_pairs(tree)

    def test_both_directions(self):
        for tree in SEVERAL:
            for one in range(len(tree) + 1):
                for other in range(one):
                    self.assertEqual(distance_between(tree, one, other), distance_between(tree, other, one))
                    self.assertEqual(way_between(tree, one, other), way_between(tree, other, one)[::-1])

    def test_a_mark_and_itself(self):
        for tree in SEVERAL:
            for mark in range(len(tree) + 1):
                self.assertEqual(distance_between(tree, mark, mark), 0)
                self.assertEqual(way_between(tree, mark, mark), (mark,))

    def test_the_tree_with_one_mark(self):
        self.assertEqual(distance_between((), 0, 0), 0)
        self.assertEqual(way_between((), 0, 0), (0,))

    def test_twelve_marks_with_the_longest_rows(self):
        tree = chain(12, LONGEST)
        self.assertEqual(distance_between(tree, 0, 11), 11 * LONGEST)
        self.assertEqual(distance_between(tree, 11, 0), 11 * LONGEST)
        self.assertEqual(way_between(tree, 11, 0), tuple(range(11, -1, -1)))
        self.assertEqual(distance_between(star(12, LONGEST), 3, 9), 2 * LONGEST)
        self.assertEqual(way_between(star(12, LONGEST), 3, 9), (3, 0, 9))

    def test_length_belongs_to_the_row_and_not_to_the_parent(self):
        tree = ((0, 5), (0, 7), (1, 11))
        self.assertEqual(distance_between(tree, 3, 2), 23)
        self.assertEqual(distance_between(tree, 3, 1), 11)
        self.assertEqual(distance_between(tree, 1, 2), 12)

    def test_equal_shapes_with_other_lengths(self):
        self.assertEqual(distance_between(((0, 2), (1, 3)), 0, 2), 5)
        self.assertEqual(distance_between(((0, 2), (1, 30)), 0, 2), 32)
        self.assertEqual(distance_between(((0, 2), (0, 3)), 0, 2), 3)


class DistancesTest(unittest.TestCase):

    def test_all_pairs(self):
        for tree in SEVERAL + shapes(5):
            self.assertEqual(distances_of(tree), plain_distances(tree))

    def test_each_call_makes_lists_of_its_own(self):
        distances_of(T)[0][1] = 7
        self.assertEqual(distances_of(T), [[0, 2, 5], [2, 0, 3], [5, 3, 0]])


class NeighboursTest(unittest.TestCase):

    def test_neighbours_with_their_rows(self):
        self.assertEqual(neighbours_of((), 0), [])
        self.assertEqual([neighbours_of(T, mark) for mark in range(3)], [[(1, 2)], [(0, 2), (2, 3)], [(1, 3)]])
        self.assertEqual(neighbours_of(((0, 4), (0, 5), (1, 6)), 0), [(1, 4), (2, 5)])

    def test_each_row_joins_two_neighbours(self):
        for tree in SEVERAL:
            found = {(mark, *near) for mark in range(len(tree) + 1) for near in neighbours_of(tree, mark)}
            rows = {(parent, row + 1, length) for row, (parent, length) in enumerate(tree)}
            self.assertEqual(found, rows | {(mark, parent, length) for parent, mark, length in rows})


class GrownTest(unittest.TestCase):

    def check_too_large(self, call):
        with self.assertRaises(TooLarge) as caught:
            call()
        self.assertIsInstance(caught.exception, FallError)
        self.assertEqual(caught.exception.bound, 12)
        self.assertIs(type(caught.exception.bound), int)

    def test_hung_at_each_mark(self):
        for marks in range(1, 12):
            for tree in (chain(marks, 4), star(marks, LONGEST)):
                for mark in range(marks):
                    for length in (1, 7, LONGEST):
                        with self.subTest(tree=tree, mark=mark, length=length):
                            expected = tree + ((mark, length),)
                            self.assertEqual(hung(tree, mark, length), expected)
                            self.assertEqual(hung(tree, mark, length), expected)
                            self.assertIs(is_tree(hung(tree, mark, length)), True)

    def test_joined_at_each_mark(self):
        other = ((0, 4), (0, 5), (2, 6), (1, 7))
        for marks in range(1, 8):
            for tree in (chain(marks, 4), star(marks, LONGEST)):
                for mark in range(marks):
                    for length in (1, 9, LONGEST):
                        with self.subTest(tree=tree, mark=mark, length=length):
                            found = joined(tree, mark, other, length=length)
                            rows = ((marks, 4), (marks, 5), (marks + 2, 6), (marks + 1, 7))
                            self.assertEqual(found, tree + ((mark, length),) + rows)
                            self.assertEqual(found, joined(tree, mark, other, length=length))
                            self.assertIs(is_tree(found), True)

    def test_joined_without_length(self):
        self.assertEqual(joined((), 0, ()), ((0, 1),))
        self.assertEqual(joined(T, 1, ()), ((0, 2), (1, 3), (1, 1)))
        self.assertEqual(joined(T, 2, T), ((0, 2), (1, 3), (2, 1), (3, 2), (4, 3)))
        for mark in range(3):
            self.assertEqual(joined(T, mark, T), joined(T, mark, T, length=1))

    def test_joined_keeps_all_distances(self):
        tree = ((0, 2), (0, 3), (1, 50), (2, 700))
        other = ((0, 11), (1, 13), (0, 17), (1, 19), (4, 23))
        for mark in range(5):
            found = joined(tree, mark, other, length=1000)
            for one in range(5):
                for two in range(5):
                    self.assertEqual(distance_between(found, one, two), distance_between(tree, one, two))
                for two in range(6):
                    distance = distance_between(tree, one, mark) + 1000 + distance_between(other, 0, two)
                    self.assertEqual(distance_between(found, one, 5 + two), distance)
            for one in range(6):
                for two in range(6):
                    self.assertEqual(distance_between(found, 5 + one, 5 + two), distance_between(other, one, two))

    def test_twelve_marks_are_accepted(self):
        for marks in range(1, 12):
            with self.subTest(marks=marks):
                tree = star(marks, 2)
                found = joined(tree, marks - 1, chain(12 - marks, 3), length=8)
                rows = tuple((k, 3) for k in range(marks, 11))
                self.assertEqual(found, tree + ((marks - 1, 8),) + rows)
                self.assertEqual(len(found), 11)
        self.assertEqual(hung(chain(11), 10, LONGEST), chain(11) + ((10, LONGEST),))

    def test_thirteen_marks_are_too_many(self):
        for marks in range(1, 13):
            for mark in (0, marks - 1):
                with self.subTest(marks=marks, mark=mark):
                    self.check_too_large(lambda: joined(star(marks), mark, chain(13 - marks), length=2))
                    self.check_too_large(lambda: joined(star(marks), mark, chain(13 - marks)))

    def test_many_more_marks_are_too_many(self):
        self.check_too_large(lambda: joined(chain(12), 11, chain(12), length=LONGEST))
        self.check_too_large(lambda: joined((), 0, chain(12)))
        self.check_too_large(lambda: joined(chain(7), 3, star(7)))

    def test_hung_on_twelve_marks_is_too_many(self):
        for mark in range(12):
            for length in (1, LONGEST):
                self.check_too_large(lambda: hung(chain(12), mark, length))
                self.check_too_large(lambda: hung(star(12), mark, length))

    def test_trees_that_were_passed_do_not_change(self):
        tree = ((0, 2), (1, 3), (1, 4))
        other = ((0, 5), (0, 6))
        hung(tree, 2, 9)
        joined(tree, 2, other, length=9)
        joined(tree, 0, tree)
        way_between(tree, 3, 0)
        distance_between(tree, 3, 0)
        self.assertEqual(tree, ((0, 2), (1, 3), (1, 4)))
        self.assertEqual(other, ((0, 5), (0, 6)))
        full = chain(12)
        self.check_too_large(lambda: hung(full, 0, 1))
        self.check_too_large(lambda: joined(full, 0, other))
        self.assertEqual(full, chain(12))
        self.assertEqual(other, ((0, 5), (0, 6)))


if __name__ == "__main__":
    unittest.main()
