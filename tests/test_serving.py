"""Tests of marktopples.serving: points [9] and [10], and what points [2] (d), (g) and [3] say of them."""

import itertools
import random
import unittest

from marktopples import serving
from marktopples.errors import FallError, NoTable
from marktopples.falls import falls_of
from marktopples.serving import fewest_pushes, least_finish, serving_part, shows_fewest
from marktopples.windows import find_pair, is_windows
from tests.samples import (
    LAST_TICK, LONGEST, SEVERAL, SMALL, T, W, any_values, chain, check_bool, check_call, check_interface,
    check_raises, plain_distances, plain_falls, plain_fits, push_choices, random_tree, random_windows, shapes,
    shapes_with, star, windows_around,
)

NO_TABLE = ((5, 9), (0, 2), (0, 9))


def plain_part(tree, windows, mark):
    """Return the serving part in the words of the document."""
    far = plain_distances(tree)
    marks = range(len(windows))
    first = [max(windows[one][0] - far[one][other] for one in marks) for other in marks]
    last = windows[mark][1]
    return tuple(other for other in marks if last is None or first[other] + far[mark][other] <= last)


def are_apart(tree, windows, marks):
    parts = [set(plain_part(tree, windows, mark)) for mark in marks]
    return all(not one & other for one, other in itertools.combinations(parts, 2))


def plain_shows(tree, windows, value):
    """Return whether a tuple of valid pushes and of valid marks shows the fewest pushes."""
    pushes, marks = value
    ascending = all(one < other for one, other in zip(marks, marks[1:]))
    fitting = plain_fits(tree, windows, plain_falls(tree, pushes))
    return ascending and fitting and len(marks) == len(pushes) and are_apart(tree, windows, marks)


def cases_with_table(seed, many):
    """Return trees of up to twelve marks with windows that some table fits."""
    chance = random.Random(seed)
    found = []
    while len(found) < many:
        marks = chance.randint(1, 12)
        tree = random_tree(chance, marks, chance.choice([1, 5, 40, LONGEST]))
        if chance.randint(0, 1):
            far = plain_distances(tree)[chance.randint(0, marks - 1)]
            most = chance.choice([0, 3, 20, LONGEST])
            windows = windows_around(chance, [number + 3 for number in far], most)
        else:
            windows = random_windows(chance, marks, chance.choice([1, 9, LAST_TICK]))
        if find_pair(tree, windows) is None:
            found.append((tree, windows))
    return found


def small_cases(seed, many):
    """Return small trees with windows that some table fits, and with ticks up to 4."""
    chance = random.Random(seed)
    found = []
    for tree in SMALL:
        mine = []
        while len(mine) < many:
            windows = random_windows(chance, len(tree) + 1, 4)
            if find_pair(tree, windows) is None:
                mine.append((tree, windows))
        found += mine
    return found


class ExampleTest(unittest.TestCase):

    def test_serving_part(self):
        found = [serving_part(T, W, 0), serving_part(T, W, 1), serving_part(T, W, 2)]
        self.assertEqual(repr(found), "[(0,), (0, 1, 2), (2,)]")

    def test_fewest_pushes(self):
        found = [len(fewest_pushes(T, W)[0]), shows_fewest(T, W, fewest_pushes(T, W))]
        self.assertEqual(repr(found), "[2, True]")

    def test_shows_fewest(self):
        found = [shows_fewest(T, W, (((0, 1), (2, 0)), (0, 2))), shows_fewest(T, W, (((0, 1), (2, 0)), (0, 1)))]
        self.assertEqual(repr(found), "[True, False]")

    def test_least_finish(self):
        found = [least_finish(T, 1)[0], least_finish(T, 2)[0], least_finish(T, 3)[0]]
        self.assertEqual(repr(found), "[3, 2, 0]")


class InterfaceTest(unittest.TestCase):

    def test_functions_are_defined_in_the_file(self):
        check_interface(self, serving, {
            "serving_part": ["tree", "windows", "mark"],
            "fewest_pushes": ["tree", "windows"],
            "shows_fewest": ["tree", "windows", "value"],
            "least_finish": ["tree", "many"],
        })


class NoTableTest(unittest.TestCase):

    def test_no_table(self):
        chance = random.Random(31)
        cases = [(T, NO_TABLE), (((0, 1),), ((0, 0), (2, 2)))]
        while len(cases) < 60:
            tree = random_tree(chance, chance.randint(2, 12), 6)
            windows = random_windows(chance, len(tree) + 1, 20)
            if find_pair(tree, windows) is not None:
                cases.append((tree, windows))
        for tree, windows in cases:
            pair = find_pair(tree, windows)
            check_raises(self, NoTable, "pair", pair, fewest_pushes, tree, windows)
            for mark in range(len(windows)):
                check_raises(self, NoTable, "pair", pair, serving_part, tree, windows, mark)

    def test_pair_of_an_example(self):
        check_raises(self, NoTable, "pair", (0, 1), fewest_pushes, T, NO_TABLE)
        check_raises(self, NoTable, "pair", (0, 1), serving_part, T, NO_TABLE, 2)
        with self.assertRaises(FallError):
            fewest_pushes(T, NO_TABLE)

    def test_shows_fewest_accepts_nothing_then(self):
        for value in any_values() + [(((0, 5), (1, 2)), (0, 1)), (((1, 0),), (1,))]:
            check_bool(self, False, shows_fewest, T, NO_TABLE, value)


class ServingPartTest(unittest.TestCase):

    def check_parts(self, tree, windows):
        for mark in range(len(windows)):
            found = check_call(self, serving_part, tree, windows, mark)
            self.assertEqual(found, plain_part(tree, windows, mark), (tree, windows, mark))
            self.assertIn(mark, found)

    def test_random_windows(self):
        for tree, windows in cases_with_table(32, 150) + small_cases(33, 10):
            self.check_parts(tree, windows)

    def test_a_mark_without_a_last_tick_is_served_by_all(self):
        for tree in SEVERAL:
            marks = len(tree) + 1
            for least in (0, LAST_TICK):
                for mark in range(marks):
                    self.assertEqual(serving_part(tree, ((least, None),) * marks, mark), tuple(range(marks)))

    def test_distances_that_are_just_short_enough(self):
        for tree in SEVERAL:
            far = plain_distances(tree)
            marks = len(tree) + 1
            for one, other in itertools.permutations(range(marks), 2):
                for more in (0, 1):
                    windows = [(0, None)] * marks
                    windows[one] = (0, far[one][other] - more)
                    found = serving_part(tree, tuple(windows), one)
                    self.assertIs(other in found, more == 0)
                    self.assertEqual(found, plain_part(tree, tuple(windows), one))

    def test_a_push_cannot_come_before_the_earliest_number(self):
        self.assertEqual(serving_part(T, ((0, 6), (0, None), (0, None)), 0), (0, 1, 2))
        self.assertEqual(serving_part(T, ((0, 6), (0, None), (1, None)), 0), (0, 1, 2))
        self.assertEqual(serving_part(T, ((0, 6), (0, None), (2, None)), 0), (0, 1))
        self.assertEqual(serving_part(T, ((0, 6), (5, None), (0, None)), 0), (0,))

    def test_all_marks_on_the_way_belong_to_the_part(self):
        for tree, windows in cases_with_table(34, 60):
            far = plain_distances(tree)
            for mark in range(len(windows)):
                part = serving_part(tree, windows, mark)
                for other in part:
                    way = [k for k in range(len(windows)) if far[mark][k] + far[k][other] == far[mark][other]]
                    self.assertTrue(set(way) <= set(part))


class FewestPushesTest(unittest.TestCase):

    def check_fewest(self, tree, windows):
        """Return the number of pushes; the result is what the document says it is."""
        found = check_call(self, fewest_pushes, tree, windows)
        self.assertIs(type(found), tuple)
        pushes, marks = found
        self.assertEqual(pushes, tuple(sorted(set(pushes))))
        self.assertEqual(marks, tuple(sorted(set(marks))))
        self.assertEqual(len(pushes), len(marks))
        self.assertTrue(plain_fits(tree, windows, falls_of(tree, pushes)), (tree, windows, pushes))
        self.assertTrue(are_apart(tree, windows, marks), (tree, windows, marks))
        check_bool(self, True, shows_fewest, tree, windows, found)
        return len(pushes)

    def test_random_windows(self):
        found = [self.check_fewest(tree, windows) for tree, windows in cases_with_table(35, 400)]
        for many in (1, 2, 3, 4, 5):
            self.assertIn(many, found)

    def test_no_fewer_pushes_at_any_ticks_fit(self):
        choices = {tree: [] for tree in SMALL}
        for tree in SMALL:
            for pushes in push_choices(tree, 4 if len(tree) > 2 else 6):
                choices[tree].append((len(pushes), plain_falls(tree, pushes)))
        found = []
        for tree, windows in small_cases(36, 12):
            least = min(many for many, table in choices[tree] if plain_fits(tree, windows, table))
            self.assertEqual(self.check_fewest(tree, windows), least, (tree, windows))
            found.append(least)
        for many in (1, 2, 3):
            self.assertIn(many, found)

    def test_as_many_as_the_most_marks_with_parts_that_are_apart(self):
        """Guarantee (d)."""
        for tree, windows in small_cases(37, 10) + cases_with_table(38, 25):
            marks = range(len(windows))
            parts = [set(plain_part(tree, windows, mark)) for mark in marks]
            near = {pair for pair in itertools.combinations(marks, 2) if parts[pair[0]] & parts[pair[1]]}
            most = max(
                many for many in range(1, len(windows) + 1)
                if any(not any(pair in near for pair in itertools.combinations(chosen, 2))
                       for chosen in itertools.combinations(marks, many))
            )
            self.assertEqual(self.check_fewest(tree, windows), most)

    def test_no_window_with_a_last_tick(self):
        for tree in SEVERAL:
            marks = len(tree) + 1
            for least in (0, LAST_TICK):
                self.assertEqual(self.check_fewest(tree, ((least, None),) * marks), 1)

    def test_a_push_for_each_mark(self):
        for tree in SEVERAL:
            marks = len(tree) + 1
            for tick in (0, 5, LAST_TICK):
                found = fewest_pushes(tree, ((tick, tick),) * marks)
                self.assertEqual(self.check_fewest(tree, ((tick, tick),) * marks), marks)
                self.assertEqual(found, (tuple((mark, tick) for mark in range(marks)), tuple(range(marks))))

    def test_one_mark(self):
        for window in ((0, 0), (3, 8), (3, None), (LAST_TICK, LAST_TICK)):
            self.assertEqual(fewest_pushes((), (window,))[1], (0,))
            self.assertEqual(self.check_fewest((), (window,)), 1)

    def test_stars_and_chains(self):
        for marks in range(2, 13):
            for length in (1, 7, LONGEST):
                ends = ((0, length - 1),) * marks
                self.assertEqual(self.check_fewest(star(marks, length), ends), marks)
                self.assertEqual(self.check_fewest(chain(marks, length), ends), marks)
                near = ((0, length),) * marks
                self.assertEqual(self.check_fewest(star(marks, length), near), 1)
                self.assertEqual(self.check_fewest(chain(marks, length), near), (marks + 2) // 3)

    def test_ticks_at_the_bound_with_long_rows(self):
        tree = chain(12, LONGEST)
        windows = ((0, LAST_TICK),) + ((0, None),) * 10 + ((LAST_TICK, None),)
        self.assertEqual(self.check_fewest(tree, windows), 1)
        windows = ((0, LAST_TICK - 1),) + ((0, None),) * 10 + ((LAST_TICK, LAST_TICK),)
        self.assertEqual(self.check_fewest(tree, windows), 1)
        windows = ((LAST_TICK, LAST_TICK),) + ((0, None),) * 10 + ((LAST_TICK, LAST_TICK),)
        self.assertEqual(self.check_fewest(tree, windows), 2)


class ShowsFewestTest(unittest.TestCase):

    def refuse(self, tree, windows, value):
        check_bool(self, False, shows_fewest, tree, windows, value)

    def test_pushes_in_another_order(self):
        chance = random.Random(39)
        for tree, windows in cases_with_table(40, 100):
            pushes, marks = fewest_pushes(tree, windows)
            check_bool(self, True, shows_fewest, tree, windows, (pushes[::-1], marks))
            mixed = tuple(chance.sample(pushes, len(pushes)))
            check_bool(self, True, shows_fewest, tree, windows, (mixed, marks))

    def test_against_all_pushes_and_marks(self):
        found = {True: 0, False: 0}
        for tree, windows in small_cases(41, 2):
            if len(tree) < 3:
                marks = range(len(tree) + 1)
                chosen = [row for many in range(4) for row in itertools.permutations(marks, many)]
                for pushes in push_choices(tree, 3):
                    for row in chosen:
                        expected = plain_shows(tree, windows, (pushes, row))
                        self.assertIs(shows_fewest(tree, windows, (pushes, row)), expected)
                        found[expected] += 1
        self.assertGreater(found[True], 50)

    def test_one_push_changed(self):
        for tree, windows in cases_with_table(42, 80):
            pushes, marks = fewest_pushes(tree, windows)
            for index, (mark, tick) in enumerate(pushes):
                others = [(mark, tick + 1), (mark, tick - 1), (mark, tick + 50), (mark + 1, tick), (mark - 1, tick)]
                for push in others:
                    changed = pushes[:index] + (push,) + pushes[index + 1:]
                    if 0 <= push[0] < len(windows) and 0 <= push[1] <= LAST_TICK:
                        expected = plain_shows(tree, windows, (changed, marks))
                        check_bool(self, expected, shows_fewest, tree, windows, (changed, marks))
                    else:
                        self.refuse(tree, windows, (changed, marks))

    def test_one_push_or_mark_left_out_or_repeated(self):
        for tree, windows in cases_with_table(43, 100):
            pushes, marks = fewest_pushes(tree, windows)
            for index in range(len(pushes)):
                fewer = pushes[:index] + pushes[index + 1:]
                fewer_marks = marks[:index] + marks[index + 1:]
                more = pushes + (pushes[index],)
                twice = marks[:index + 1] + marks[index:]
                self.refuse(tree, windows, (fewer, marks))
                self.refuse(tree, windows, (pushes, fewer_marks))
                self.refuse(tree, windows, (fewer, fewer_marks))
                self.refuse(tree, windows, (more, marks))
                self.refuse(tree, windows, (pushes, twice))
                self.refuse(tree, windows, (more, twice))
                self.refuse(tree, windows, (pushes, marks + (marks[index],)))
                self.refuse(tree, windows, (more, marks + (marks[index],)))

    def test_one_mark_changed(self):
        found = {True: 0, False: 0}
        for tree, windows in cases_with_table(44, 80):
            pushes, marks = fewest_pushes(tree, windows)
            for index in range(len(marks)):
                for mark in range(-1, len(windows) + 1):
                    changed = marks[:index] + (mark,) + marks[index + 1:]
                    valid = 0 <= mark < len(windows)
                    expected = valid and plain_shows(tree, windows, (pushes, changed))
                    check_bool(self, expected, shows_fewest, tree, windows, (pushes, changed))
                    found[expected] += 1
        self.assertGreater(found[True], 50)
        self.assertGreater(found[False], 50)

    def test_marks_that_are_not_ascending(self):
        for tree in SEVERAL[1:]:
            marks = tuple(range(len(tree) + 1))
            windows = ((4, 4),) * len(marks)
            pushes = tuple((mark, 4) for mark in marks)
            check_bool(self, True, shows_fewest, tree, windows, (pushes, marks))
            check_bool(self, True, shows_fewest, tree, windows, (pushes[::-1], marks))
            self.refuse(tree, windows, (pushes, marks[::-1]))
            self.refuse(tree, windows, (pushes, (marks[1], marks[0]) + marks[2:]))
            self.refuse(tree, windows, (pushes, marks[:-2] + (marks[-1], marks[-2])))
            self.refuse(tree, windows, (pushes, marks[:-1] + marks[-2:-1]))

    def test_marks_with_parts_that_have_a_mark_in_common(self):
        self.refuse(T, W, (((0, 1), (2, 0)), (0, 1)))
        self.refuse(T, W, (((0, 1), (2, 0)), (1, 2)))
        self.refuse(T, W, (((0, 1), (1, 3), (2, 0)), (0, 1, 2)))

    def test_other_ticks_that_fit(self):
        for pushes in [((0, 0), (2, 1)), ((0, 4), (2, 4)), ((0, 3), (2, 2)), ((2, 2), (0, 3))]:
            expected = plain_shows(T, W, (pushes, (0, 2)))
            check_bool(self, expected, shows_fewest, T, W, (pushes, (0, 2)))
        check_bool(self, True, shows_fewest, T, W, (((0, 4), (2, 4)), (0, 2)))
        self.refuse(T, W, (((0, 0), (2, 1)), (0, 2)))
        self.refuse(T, W, (((0, 5), (2, 4)), (0, 2)))

    def test_more_pushes_than_are_allowed(self):
        windows = ((0, None),) * 3
        check_bool(self, True, shows_fewest, T, windows, (((1, 7),), (2,)))
        self.refuse(T, windows, ((), ()))
        self.refuse(T, windows, (((1, 7),) * 21, (2,)))
        self.refuse(T, windows, (((1, 7),) * 2, (2,)))
        self.refuse(T, windows, (((1, LAST_TICK + 1),), (2,)))
        check_bool(self, True, shows_fewest, T, windows, (((1, LAST_TICK),), (2,)))

    def test_lists(self):
        good = (((0, 1), (2, 0)), (0, 2))
        check_bool(self, True, shows_fewest, T, W, good)
        self.refuse(T, W, list(good))
        self.refuse(T, W, (list(good[0]), good[1]))
        self.refuse(T, W, (good[0], list(good[1])))
        self.refuse(T, W, (([0, 1], (2, 0)), good[1]))
        self.refuse(T, W, ((good[0][0], [2, 0]), good[1]))
        self.refuse(T, W, (good[0], (0, [2])))
        check_bool(self, True, shows_fewest, T, W, good)

    def test_bools(self):
        windows = ((0, 1), (0, 1))
        tree = ((0, 5),)
        good = (((0, 1), (1, 0)), (0, 1))
        check_bool(self, True, shows_fewest, tree, windows, good)
        for bad in [
            (((False, 1), (1, 0)), (0, 1)), (((0, True), (1, 0)), (0, 1)), (((0, 1), (True, 0)), (0, 1)),
            (((0, 1), (1, False)), (0, 1)), (good[0], (False, 1)), (good[0], (0, True)), (good[0], (False, True)),
        ]:
            self.refuse(tree, windows, bad)
            check_bool(self, True, shows_fewest, tree, windows, good)

    def test_other_lengths(self):
        good = (((0, 1), (2, 0)), (0, 2))
        for value in [good[:1], good[1:], good + ((),), good + good, good + (None,), good[::-1], (good,)]:
            self.refuse(T, W, value)

    def test_any_values(self):
        for tree, windows in [((), ((0, None),)), (T, W), (chain(12), ((0, 30),) * 12)]:
            for value in any_values():
                with self.subTest(tree=tree, value=value):
                    self.refuse(tree, windows, value)

    def test_any_value_as_a_part(self):
        first, second = ((0, 1), (2, 0))
        for value in any_values():
            with self.subTest(value=value):
                self.refuse(T, W, (value, (0, 2)))
                self.refuse(T, W, ((first, second), value))
                self.refuse(T, W, ((first, value), (0, 2)))
                self.refuse(T, W, ((first, (value, 0)), (0, 2)))
                self.refuse(T, W, ((first, second), (0, value)))
                # These two accept the numbers that fit, and no other value.
                is_number = type(value) is int
                pushes = (first, (2, value))
                check_bool(self, is_number and 0 <= value <= 4, shows_fewest, T, W, (pushes, (0, 2)))
                marks = (value, 2)
                check_bool(self, is_number and value == 0, shows_fewest, T, W, ((first, second), marks))


class LeastFinishTest(unittest.TestCase):

    def check_finish(self, tree, many):
        """Compare with the finish of all sets of marks that are pushed at tick 0."""
        marks = range(len(tree) + 1)
        far = plain_distances(tree)
        finish = min(
            max(min(far[mark][pushed] for pushed in chosen) for mark in marks)
            for chosen in itertools.combinations(marks, many)
        )
        found = check_call(self, least_finish, tree, many)
        self.assertIs(type(found), tuple)
        self.assertEqual(found[0], finish, (tree, many))
        self.assertIs(type(found[0]), int)
        self.check_pushes(tree, many, finish, found[1])
        if finish == 0:
            self.assertEqual(len(found), 3)
            self.assertIsNone(found[2])
        else:
            self.check_marks(tree, many, finish, found[2])

    def check_pushes(self, tree, many, finish, pushes):
        self.assertEqual(pushes, tuple(sorted(set(pushes))))
        self.assertTrue(1 <= len(pushes) <= many)
        self.assertEqual(max(falls_of(tree, pushes)), finish)

    def check_marks(self, tree, many, finish, found):
        windows = ((0, finish - 1),) * (len(tree) + 1)
        self.assertTrue(is_windows(tree, windows))
        self.assertEqual(found, tuple(sorted(set(found))))
        self.assertEqual(len(found), many + 1)
        self.assertTrue(set(found) <= set(range(len(tree) + 1)))
        self.assertTrue(are_apart(tree, windows, found), (tree, many, found))

    def test_all_small_trees(self):
        for marks in range(1, 6):
            for tree in shapes(marks) + shapes_with([1] * (marks - 1)) + shapes_with([3, 2, 2, 5][:marks - 1]):
                for many in range(1, marks + 1):
                    self.check_finish(tree, many)

    def test_several_trees(self):
        for tree in SEVERAL:
            for many in range(1, len(tree) + 2):
                self.check_finish(tree, many)

    def test_random_trees(self):
        chance = random.Random(45)
        for _ in range(25):
            tree = random_tree(chance, chance.randint(6, 12), chance.choice([1, 3, 20, LONGEST]))
            for many in range(1, len(tree) + 2):
                self.check_finish(tree, many)

    def test_a_push_at_each_mark(self):
        for tree in SEVERAL:
            marks = len(tree) + 1
            self.assertEqual(least_finish(tree, marks), (0, tuple((mark, 0) for mark in range(marks)), None))

    def test_one_push_less_than_marks(self):
        for tree in SEVERAL[1:]:
            marks = len(tree) + 1
            finish = min(length for _, length in tree)
            self.assertEqual(least_finish(tree, marks - 1)[0], finish)
            self.assertEqual(least_finish(tree, marks - 1)[2], tuple(range(marks)))

    def test_one_push(self):
        for marks in range(2, 13):
            for length in (1, 7, LONGEST):
                self.assertEqual(least_finish(chain(marks, length), 1)[0], marks // 2 * length)
                self.assertEqual(least_finish(star(marks, length), 1)[0], length)

    def test_longest_rows(self):
        for many, steps in [(1, 6), (2, 3), (3, 2), (4, 1), (6, 1), (11, 1), (12, 0)]:
            self.assertEqual(least_finish(chain(12, LONGEST), many)[0], steps * LONGEST)


class SettledAnswersTest(unittest.TestCase):
    """Where several results are correct, one was chosen once, and it stays."""

    tree = tuple((k, LONGEST - k) for k in range(11))

    def test_least_finish(self):
        finishes = [
            5999955, 2999982, 1999991, 1000000, 999999, 999997, 999996, 999994, 999993, 999991, 999990, 0,
        ]
        self.assertEqual([least_finish(self.tree, many)[0] for many in range(1, 13)], finishes)
        self.assertEqual(least_finish(self.tree, 1), (5999955, ((5, 0),), (0, 11)))
        self.assertEqual(least_finish(self.tree, 2), (2999982, ((2, 0), (8, 0)), (0, 5, 11)))
        self.assertEqual(least_finish(self.tree, 4)[1:], (((1, 0), (4, 0), (7, 0), (10, 0)), (0, 2, 5, 8, 11)))
        pushes = tuple((mark, 0) for mark in (0, 1, 2, 4, 7, 10))
        self.assertEqual(least_finish(self.tree, 6), (999997, pushes, (0, 1, 2, 3, 5, 8, 11)))

    def test_windows_without_last_ticks(self):
        windows = ((0, None),) * 12
        self.assertEqual(fewest_pushes(self.tree, windows), (((0, 0),), (11,)))
        for mark in range(12):
            self.assertEqual(serving_part(self.tree, windows, mark), tuple(range(12)))

    def test_windows_with_a_last_tick(self):
        windows = ((0, 3 * LONGEST),) * 12
        self.assertEqual(fewest_pushes(self.tree, windows), (((1, 0), (8, 0)), (4, 11)))
        for mark in range(12):
            # Three rows together are a little shorter than the window, four are longer.
            expected = tuple(range(max(0, mark - 3), min(12, mark + 4)))
            self.assertEqual(serving_part(self.tree, windows, mark), expected)

    def test_windows_at_the_bound(self):
        windows = ((LAST_TICK - 4 * LONGEST, LAST_TICK),) * 12
        pushes, marks = fewest_pushes(self.tree, windows)
        self.assertEqual(pushes, ((0, LAST_TICK - 4 * LONGEST), (7, LAST_TICK - 4 * LONGEST)))
        self.assertEqual(marks, (2, 11))

    def test_a_tree_with_branches(self):
        tree = ((0, 4), (0, 9), (1, 2), (1, 7), (2, 1), (2, 30), (4, 5), (3, 8))
        self.assertEqual(least_finish(tree, 2), (14, ((1, 0), (6, 0)), (5, 6, 8)))
        windows = ((0, 9), (3, None), (0, 12), (2, 8), (0, 40), (1, 9)) + ((0, 11),) * 3
        self.assertEqual(fewest_pushes(tree, windows), (((2, 0), (3, 2), (4, 0), (6, 0)), (5, 6, 7, 8)))


if __name__ == "__main__":
    unittest.main()
