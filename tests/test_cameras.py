"""Tests of marktopples.cameras: the class Camera of point [17], and what point [3] says of it."""

import inspect
import itertools
import unittest

from marktopples import cameras
from marktopples.cameras import Camera
from marktopples.errors import BadMarks, BadTable, FallError
from tests.samples import LAST_TICK, LIMIT, any_values, check_call, check_same_value

ALL_MARKS = tuple(range(12))


class ExampleTest(unittest.TestCase):

    def test_camera(self):
        camera = Camera((0, 2, 9))
        self.assertEqual(repr([camera.marks, camera.shot((1, 3, 0))]), "[(0, 2, 9), ((0, 1), (2, 0))]")


class InterfaceTest(unittest.TestCase):

    def test_class_is_defined_in_the_file(self):
        self.assertTrue(inspect.isclass(Camera))
        self.assertEqual(Camera.__module__, cameras.__name__)
        self.assertEqual(list(inspect.signature(Camera).parameters), ["marks"])
        self.assertIn("shot", vars(Camera))
        self.assertEqual(list(inspect.signature(Camera.shot).parameters), ["self", "table"])


class MarksTest(unittest.TestCase):

    def check_marks(self, marks):
        self.assertIs(Camera(marks).marks, marks)
        self.assertEqual(Camera(marks).shot((5,) * 12), tuple((mark, 5) for mark in marks))

    def check_bad(self, value):
        check_same_value(self, BadMarks, value, Camera, value)

    def test_all_sets_of_up_to_three_marks(self):
        for many in range(4):
            for marks in itertools.combinations(range(12), many):
                self.check_marks(marks)

    def test_no_mark_one_and_twelve(self):
        self.check_marks(())
        self.check_marks((0,))
        self.check_marks((11,))
        self.check_marks(ALL_MARKS)
        self.check_marks(ALL_MARKS[1:])

    def test_not_ascending(self):
        for marks in [(1, 0), (0, 2, 1), (11, 0), (3, 4, 5, 1), ALL_MARKS[::-1], (1, 0) + ALL_MARKS[2:]]:
            self.check_bad(marks)

    def test_equal_ones(self):
        for marks in [(0, 0), (11, 11), (0, 1, 1, 2), (0, 0, 1), (3, 4, 4), ALL_MARKS + (11,), (0,) * 12, (0,) * 13]:
            self.check_bad(marks)

    def test_bounds(self):
        for mark in (12, 13, 10 ** 40 - 1):
            self.check_bad((mark,))
            self.check_bad((0, 1, mark))
            self.check_bad(ALL_MARKS[:11] + (mark,))
        for mark in (-1, -2, 1 - 10 ** 40):
            self.check_bad((mark,))
            self.check_bad((mark, 0, 1))
            self.check_bad((mark,) + ALL_MARKS[1:])
        self.check_bad(ALL_MARKS + (12,))
        self.check_bad((-1,) + ALL_MARKS)

    def test_bools_are_not_marks(self):
        for good, bad in [((0,), (False,)), ((1,), (True,)), ((0, 1), (0, True)), ((0, 1), (False, 1)),
                          ((0, 1, 2), (0, True, 2)), (ALL_MARKS, (0, True) + ALL_MARKS[2:])]:
            self.check_bad(bad)
            self.check_marks(good)
            self.check_bad(bad)
            self.check_marks(good)

    def test_lists(self):
        for value in ([], [0], [0, 2, 9], list(ALL_MARKS), ([0],), (0, [2]), ((0,), (1,))):
            self.check_bad(value)

    def test_any_values(self):
        for value in any_values():
            with self.subTest(value=value):
                if value in [(), (0,), (0, 1, 2)] and isinstance(value, tuple):
                    if not any(isinstance(mark, bool) for mark in value):
                        self.check_marks(value)
                        continue
                self.check_bad(value)

    def test_any_value_as_a_mark(self):
        for value in any_values():
            with self.subTest(value=value):
                if type(value) is int and 0 <= value <= 11:
                    self.check_marks((value,))
                else:
                    self.check_bad((value,))
                    self.check_bad((0, value))

    def test_the_error_is_a_fall_error(self):
        with self.assertRaises(FallError):
            Camera((1, 0))

    def test_marks_is_only_read(self):
        camera = Camera((0, 2))
        with self.assertRaises(AttributeError):
            camera.marks = (1,)
        self.assertEqual(camera.marks, (0, 2))
        self.assertEqual(camera.shot((1, 3, 0)), ((0, 1), (2, 0)))

    def test_a_list_that_changes_later(self):
        marks = [0, 2]
        camera = Camera(tuple(marks))
        marks[0] = 1
        self.assertEqual(camera.marks, (0, 2))


class ShotTest(unittest.TestCase):

    def check_shot(self, marks, table):
        found = check_call(self, Camera(marks).shot, table)
        self.assertEqual(found, tuple((mark, table[mark]) for mark in marks if mark < len(table)))
        self.assertIs(type(found), tuple)
        self.assertTrue(all(type(pair) is tuple for pair in found))

    def check_bad(self, value):
        for marks in ((), (0,), (0, 2, 9), ALL_MARKS):
            camera = Camera(marks)
            check_same_value(self, BadTable, value, camera.shot, value)
            self.assertEqual(camera.shot((7,)), ((0, 7),) if 0 in marks else ())

    def test_tables_with_one_to_twelve_numbers(self):
        for many in range(1, 13):
            table = tuple(range(100, 100 + many))
            for marks in [(), (0,), (11,), (0, 2, 9), (3, 4, 5, 11), ALL_MARKS]:
                self.check_shot(marks, table)
                self.check_shot(marks, table[::-1])

    def test_tables_with_fewer_marks_than_the_camera_sees(self):
        self.assertEqual(Camera((5, 9)).shot((1, 3, 0)), ())
        self.assertEqual(Camera((2, 3)).shot((1, 3, 0)), ((2, 0),))
        self.assertEqual(Camera(ALL_MARKS).shot((4,)), ((0, 4),))

    def test_bounds_of_the_numbers(self):
        for number in (0, 1, LAST_TICK, LAST_TICK + 1, LIMIT - 1, LIMIT):
            self.check_shot((0, 1), (number,))
            self.check_shot((0, 1), (0, number))
            self.check_shot(ALL_MARKS, (number,) * 12)
        for number in (-1, LIMIT + 1, 10 ** 40 - 1, 1 - 10 ** 40):
            self.check_bad((number,))
            self.check_bad((0, 0, number))
            self.check_bad((number,) + (0,) * 11)

    def test_a_table_need_not_be_possible(self):
        self.check_shot((0, 1), (0, LIMIT, 0, LIMIT))

    def test_bools_are_not_numbers(self):
        for good, bad in [((0,), (False,)), ((1,), (True,)), ((1, 1), (1, True)), ((0, 5), (False, 5))]:
            self.check_bad(bad)
            self.check_shot((0, 1), good)
            self.check_bad(bad)
            self.check_shot((0, 1), good)

    def test_wrong_numbers_that_the_camera_does_not_see(self):
        camera = Camera((0,))
        for table in [(1, -1), (1, True), (1, None), (1, LIMIT + 1)]:
            check_same_value(self, BadTable, table, camera.shot, table)

    def test_too_few_and_too_many_numbers(self):
        self.check_bad(())
        for many in (13, 14, 100):
            self.check_bad((0,) * many)

    def test_lists(self):
        for value in ([], [0], [1, 3, 0], ([1],), ([1, 3, 0],), (1, [3])):
            self.check_bad(value)

    def test_any_values(self):
        for value in any_values():
            with self.subTest(value=value):
                if value in [(0,), (0, 1, 2)] and not any(isinstance(number, bool) for number in value):
                    self.check_shot(ALL_MARKS, value)
                else:
                    self.check_bad(value)

    def test_any_value_as_a_number(self):
        for value in any_values():
            with self.subTest(value=value):
                if type(value) is int and 0 <= value <= LIMIT:
                    self.check_shot((0, 1), (3, value))
                else:
                    self.check_bad((3, value))

    def test_the_error_is_a_fall_error(self):
        with self.assertRaises(FallError):
            Camera(()).shot(())

    def test_a_list_that_changes_later(self):
        table = [1, 3, 0]
        found = Camera((0, 2)).shot(tuple(table))
        table[0] = 9
        self.assertEqual(found, ((0, 1), (2, 0)))


if __name__ == "__main__":
    unittest.main()
