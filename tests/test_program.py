"""Tests of the whole program: what the section "The interface" and points [2] and [3] say of all files."""

import ast
import doctest
import importlib
import inspect
import pathlib
import random
import unittest

import marktopples
from marktopples import errors
from marktopples.cameras import Camera
from marktopples.counting import count_tables, each_table
from marktopples.errors import BadMarks, BadTable, BadTick, BadWindows
from marktopples.falls import falls_of, is_table, needed_pushes, together
from marktopples.fields import Field, WatchedField
from marktopples.seen import fewest_behind, find_conflict, ranges_of
from marktopples.serving import fewest_pushes, shows_fewest
from marktopples.shells import Shell
from marktopples.texts import field_text, parse_field
from marktopples.trees import is_tree, tree_error
from marktopples.values import Crew, Falls
from marktopples.windows import earliest, find_pair, fits, is_windows, latest
from tests.samples import T, W, any_values, random_tree, random_windows

PACKAGE = pathlib.Path(marktopples.__file__).parent

FUNCTIONS = {
    "trees": ["is_tree", "tree_error", "distance_between", "way_between", "hung", "joined"],
    "falls": ["falls_of", "is_table", "needed_pushes", "together"],
    "windows": ["is_windows", "fits", "find_pair", "earliest", "latest", "greatest_difference", "order_of"],
    "serving": ["serving_part", "fewest_pushes", "shows_fewest", "least_finish"],
    "seen": ["find_conflict", "ranges_of", "fewest_behind"],
    "counting": ["count_tables", "each_table"],
    "texts": ["field_text", "parse_field"],
}
CLASSES = {
    "cameras": {"Camera": ["shot"]},
    "values": {"Falls": ["__getitem__", "__or__", "__add__", "__contains__"], "Crew": ["__call__"]},
    "fields": {
        "Field": ["MOST_EDITS", "push", "pull", "stretch", "undo", "attempt", "state", "fall_of", "needed", "walk",
                  "edits", "read"],
        "WatchedField": ["known"],
    },
    "shells": {"Shell": ["execute"]},
}
ERRORS = [
    "TooLarge", "BadPushes", "NoTable", "Conflict", "NoLast", "BadTree", "Busy", "TooManyEdits", "BadTick",
    "TooManyPushes", "BadLength", "NothingToUndo", "BadEdits", "BadEdit", "Rejected", "BadMarks", "BadTable",
    "OtherTree", "BadWindows", "Misfit", "BadText", "NoMark", "NoPush", "NoRow", "NoVersion",
]
LOOKUP_ERRORS = ["NoMark", "NoPush", "NoRow", "NoVersion"]


class InterfaceTest(unittest.TestCase):

    def defined(self, name):
        """Return the names of the functions and classes that stand in a file of the package."""
        tree = ast.parse((PACKAGE / f"{name}.py").read_text())
        return {node.name: node for node in tree.body if isinstance(node, (ast.FunctionDef, ast.ClassDef))}

    def test_functions_stand_in_their_files(self):
        for name, functions in FUNCTIONS.items():
            found = self.defined(name)
            for function in functions:
                self.assertIsInstance(found.get(function), ast.FunctionDef, function)
                self.assertTrue(callable(getattr(importlib.import_module(f"marktopples.{name}"), function)))

    def test_classes_stand_in_their_files(self):
        for name, classes in CLASSES.items():
            found = self.defined(name)
            for one, members in classes.items():
                self.assertIsInstance(found.get(one), ast.ClassDef, one)
                real = getattr(importlib.import_module(f"marktopples.{name}"), one)
                for member in members:
                    self.assertIn(member, vars(real))

    def test_attributes_are_there_when_an_object_is_created(self):
        for made, names in [
            (Camera(()), ["marks"]), (Falls(T, (1, 3, 0)), ["tree", "table"]), (Crew(T, W), ["tries"]),
            (Field(T), ["tree", "pushes", "falls", "finish", "MOST_EDITS"]),
            (WatchedField(T, ()), ["tree", "pushes", "falls", "finish", "MOST_EDITS", "marks", "known"]),
        ]:
            for name in names:
                self.assertTrue(hasattr(made, name), name)

    def test_the_program_imports_only_its_own_files(self):
        for path in PACKAGE.glob("*.py"):
            for node in ast.walk(ast.parse(path.read_text())):
                self.assertNotIsInstance(node, ast.Import, path.name)
                if isinstance(node, ast.ImportFrom):
                    self.assertTrue(node.module.startswith("marktopples."), path.name)


class ErrorClassesTest(unittest.TestCase):

    def test_bases(self):
        for name in ERRORS:
            base = LookupError if name in LOOKUP_ERRORS else errors.FallError
            self.assertEqual(getattr(errors, name).__bases__, (base,))
        self.assertEqual(errors.FallError.__bases__, (ValueError,))

    def test_lookup_errors_are_no_value_errors_and_the_others_no_lookup_errors(self):
        for name in ERRORS:
            self.assertIs(issubclass(getattr(errors, name), LookupError), name in LOOKUP_ERRORS)
            self.assertIs(issubclass(getattr(errors, name), ValueError), name not in LOOKUP_ERRORS)

    def test_the_file_has_no_other_error(self):
        found = [name for name, value in vars(errors).items() if inspect.isclass(value)]
        self.assertEqual(sorted(found), sorted(ERRORS + ["FallError"]))


class ArgumentsTest(unittest.TestCase):

    def test_errors_keep_the_very_value_also_if_it_changes_later(self):
        value = [1, [2]]
        falls, field = Falls(T, (1, 3, 6)), Field(T)
        for error, act in [
            (BadTable, lambda: Falls(T, value)), (BadTick, lambda: falls + value),
            (errors.NoMark, lambda: falls[value]), (BadWindows, lambda: Crew(T, value)),
            (BadMarks, lambda: Camera(value)), (BadMarks, lambda: WatchedField(T, value)),
            (BadTable, lambda: Camera(()).shot(value)), (errors.NoMark, lambda: field.push(value, 0)),
            (BadTick, lambda: field.push(0, value)), (errors.NoPush, lambda: field.pull(value)),
            (errors.NoRow, lambda: field.stretch(value, 1)), (errors.BadLength, lambda: field.stretch(1, value)),
            (errors.NoVersion, lambda: field.state(version=value)),
            (errors.NoMark, lambda: field.fall_of(value)),
        ]:
            with self.assertRaises(error) as caught:
                act()
            self.assertIs(caught.exception.value, value)
        value[1].append(3)
        self.assertEqual(caught.exception.value, [1, [2, 3]])

    def test_any_value_is_accepted_where_a_function_says_so(self):
        fewest = fewest_pushes(T, W)
        for value in any_values() + [fewest, [fewest], (fewest[0], list(fewest[1])), Field(T), Falls((), (1,))]:
            before = repr(value)
            told = [is_tree(value), is_table(T, value), is_windows(T, value), fits(T, W, value)]
            told.append(shows_fewest(T, W, value))
            self.assertTrue(all(type(one) is bool for one in told))
            self.assertIs(tree_error(value) is None, is_tree(value))
            self.assertEqual(Shell(Field(T)).execute(value), "unknown command")
            self.assertEqual(repr(value), before)


class TogetherTest(unittest.TestCase):
    """Several files must fit together."""

    def test_falls_windows_seen_and_fields_agree(self):
        chance = random.Random(141)
        for _ in range(100):
            tree = random_tree(chance, chance.randint(1, 12), 9)
            pushes = tuple((chance.randint(0, len(tree)), chance.randint(0, 30)) for _ in range(chance.randint(1, 6)))
            table = falls_of(tree, pushes)
            field = Field.read(field_text(tree, pushes))
            watched = WatchedField(tree, tuple(range(len(tree) + 1)))
            for mark, tick in pushes:
                watched.push(mark, tick)
            self.assertEqual((field.tree, field.pushes, field.falls), (tree, pushes, table))
            self.assertEqual(field, watched)
            self.assertEqual(field.needed(), needed_pushes(tree, table))
            seen = watched.shot(table)
            self.assertEqual(watched.known, tuple((number, number) for number in table))
            self.assertEqual(watched.known, ranges_of(tree, seen))
            self.assertIsNone(find_conflict(tree, seen))
            self.assertEqual(fewest_behind(tree, seen), len(field.needed()))
            one_push = [Falls(tree, falls_of(tree, (push,))) for push in pushes]
            falls = one_push[0]
            for other in one_push[1:]:
                falls = falls | other
            self.assertEqual(falls, Falls(tree, table))
            self.assertEqual(falls.table, together(*[other.table for other in one_push]))
            self.assertEqual(parse_field(Shell(field).execute("field")), (tree, pushes))
            windows = tuple((number, number) for number in table)
            self.assertEqual([earliest(tree, windows), latest(tree, windows)], [table, table])
            self.assertEqual(Crew(tree, windows)(pushes), falls)
            self.assertEqual(list(each_table(tree, windows)), [table])
            if max(table) <= 300:
                self.assertEqual(count_tables(tree, windows), 1)

    def test_either_tables_or_a_pair(self):
        chance = random.Random(142)
        for _ in range(200):
            tree = random_tree(chance, chance.randint(1, 6), 4)
            windows = tuple(
                (least, chance.randint(least, 8) if last is None else last)
                for least, last in random_windows(chance, len(tree) + 1, 8)
            )
            first = next(each_table(tree, windows), None)
            self.assertIs(count_tables(tree, windows) == 0, find_pair(tree, windows) is not None)
            self.assertIs(first is None, find_pair(tree, windows) is not None)


class ReadmeTest(unittest.TestCase):

    def test_examples_of_the_readme(self):
        failed, tried = doctest.testfile(str(PACKAGE.parent / "README.md"), module_relative=False)
        self.assertEqual(failed, 0)
        self.assertGreater(tried, 20)


if __name__ == "__main__":
    unittest.main()
