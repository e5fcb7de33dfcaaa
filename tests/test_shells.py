"""Tests of marktopples.shells: point [19], and what point [3] says of it."""

import inspect
import random
import unittest

from marktopples import shells
from marktopples.fields import Field, WatchedField
from marktopples.shells import Shell
from marktopples.texts import field_text
from tests.fieldsamples import PlainField, all_of, check_field, do_edit, random_edit
from tests.samples import LAST_TICK, LONGEST, SEVERAL, T, any_values, chain

UNKNOWN = "unknown command"
NUMBERS = {"push": 2, "pull": 1, "stretch": 2, "undo": 0, "field": 0, "finish": 0, "falls": 0, "needed": 0}
QUERIES = ("field", "finish", "falls", "needed")


def field_and_shell(many=2, tree=T):
    field = Field(tree)
    for index in range(many):
        field.push(index % (len(tree) + 1), index)
    return field, Shell(field)


def plain_answers(field):
    """Return the answers to the queries in the words of the document."""
    answers = {"field": field_text(field.tree, field.pushes), "finish": "none", "falls": "none", "needed": "none"}
    if field.pushes:
        answers["finish"] = str(field.finish)
        answers["falls"] = " ".join(map(str, field.falls))
        answers["needed"] = " ".join(f"{mark}@{tick}" for mark, tick in field.needed())
    return answers


class Case(unittest.TestCase):

    def check_unknown(self, line):
        for many in (0, 2):
            field, shell = field_and_shell(many)
            before = all_of(field)
            for _ in range(2):
                self.assertEqual(shell.execute(line), UNKNOWN, repr(line))
            self.assertEqual(all_of(field), before)

    def check_error(self, field, shell, line, name):
        before = all_of(field)
        for _ in range(2):
            self.assertEqual(shell.execute(line), "error " + name)
            self.assertEqual(all_of(field), before)

    def check_queries(self, field, shell):
        before = all_of(field)
        for query, answer in plain_answers(field).items():
            self.assertEqual(shell.execute(query), answer)
        self.assertEqual(all_of(field), before)


class ExampleTest(Case):

    def test_one_mark(self):
        self.assertEqual(repr(Shell(Field(())).execute('field')), "';'")

    def test_commands(self):
        shell = Shell(Field(T))
        lines = ['falls', 'push 0 1', 'push 2 0', 'falls', 'needed', 'stretch 0 5', 'pull 00']
        self.assertEqual(
            repr([shell.execute(line) for line in lines]),
            "['none', 'ok 1', 'ok 2', '1 3 0', '0@1 2@0', 'error NoRow', 'unknown command']",
        )


class InterfaceTest(Case):

    def test_class_is_defined_in_the_file(self):
        self.assertTrue(inspect.isclass(Shell))
        self.assertEqual(Shell.__module__, shells.__name__)
        self.assertEqual(list(inspect.signature(Shell).parameters), ["field"])
        self.assertIn("execute", vars(Shell))
        self.assertEqual(list(inspect.signature(Shell.execute).parameters), ["self", "line"])


class EditTest(Case):

    def test_random_edits(self):
        chance = random.Random(131)
        for tree in SEVERAL:
            field, plain = Field(tree), PlainField(tree)
            shell = Shell(field)
            for _ in range(40):
                if plain.edits and chance.randint(1, 4) == 1:
                    plain.edits.pop()
                    line = "undo"
                else:
                    plain.edits.append(random_edit(chance, plain))
                    line = " ".join(map(str, plain.edits[-1]))
                answer = shell.execute(line)
                self.assertEqual(answer, f"ok {len(plain.edits)}")
                self.assertIs(type(answer), str)
                self.check_queries(field, shell)
            check_field(self, field, plain)

    def test_each_command_works_on_this_very_field(self):
        field = Field(T)
        shell = Shell(field)
        self.assertEqual(shell.execute("push 1 4"), "ok 1")
        self.assertEqual(field.pushes, ((1, 4),))
        self.assertEqual(shell.execute("stretch 2 10"), "ok 2")
        self.assertEqual(field.tree, ((0, 2), (1, 10)))
        self.assertEqual(shell.execute("pull 0"), "ok 3")
        self.assertEqual(field.pushes, ())
        self.assertEqual(shell.execute("undo"), "ok 2")
        field.undo()
        self.assertEqual(shell.execute("field"), "0:2 1:3; 1@4")

    def test_bounds(self):
        field, shell = field_and_shell(0, chain(12, LONGEST))
        self.assertEqual(shell.execute(f"push 11 {LAST_TICK}"), "ok 1")
        self.assertEqual(shell.execute(f"stretch 11 {LONGEST}"), "ok 2")
        self.assertEqual(shell.execute("finish"), str(LAST_TICK + 11 * LONGEST))
        self.check_error(field, shell, f"push 11 {LAST_TICK + 1}", "BadTick")
        self.check_error(field, shell, f"stretch 11 {LONGEST + 1}", "BadLength")
        self.check_error(field, shell, "push 12 0", "NoMark")
        self.check_error(field, shell, "stretch 12 1", "NoRow")


class ErrorTest(Case):

    def test_names_of_all_errors(self):
        field, shell = field_and_shell(0)
        for line, name in [
            ("undo", "NothingToUndo"), ("pull 0", "NoPush"), ("push 3 0", "NoMark"), ("push 0 1000000001", "BadTick"),
            ("stretch 0 5", "NoRow"), ("stretch 3 0", "NoRow"), ("stretch 1 0", "BadLength"),
            ("stretch 1 1000001", "BadLength"), ("push 9999999999 9999999999", "NoMark"),
            ("push 0 9999999999", "BadTick"), ("pull 9999999999", "NoPush"), ("stretch 9999999999 0", "NoRow"),
        ]:
            self.check_error(field, shell, line, name)
        field, shell = field_and_shell(20)
        self.check_error(field, shell, "push 0 0", "TooManyPushes")
        self.check_error(field, shell, "pull 20", "NoPush")
        while len(field) < 60:
            self.assertEqual(shell.execute("stretch 1 7"), f"ok {len(field)}")
        for line in ("push 9 9", "pull 99", "stretch 0 0", "push 0 0"):
            self.check_error(field, shell, line, "TooManyEdits")
        self.assertEqual(shell.execute("undo"), "ok 59")

    def test_busy_while_a_watch_runs(self):
        field, shell = field_and_shell(2)
        other = Shell(field)

        def watch(given):
            for line in ("push 0 0", "push 99 0", "pull 0", "pull 99", "stretch 1 1", "stretch 0 0", "undo"):
                self.check_error(field, shell, line, "Busy")
                self.check_error(field, other, line, "Busy")
            self.check_queries(field, shell)
            self.assertEqual(shell.execute("pull"), UNKNOWN)

        self.assertEqual(field.attempt([("push", 2, 0), ("pull", 0)], watch=watch), 2)
        self.assertEqual(shell.execute("undo"), "ok 3")

    def test_an_edit_of_another_field_while_a_watch_runs(self):
        field, shell = field_and_shell(2)
        busy = Field(T)
        busy.attempt([("push", 0, 0)], watch=lambda given: self.assertEqual(shell.execute("undo"), "ok 1"))
        self.assertEqual(len(field), 1)


class QueryTest(Case):

    def test_with_and_without_pushes(self):
        for tree in SEVERAL:
            for many in (0, 1, 2, 20):
                field, shell = field_and_shell(many, tree)
                self.check_queries(field, shell)
        field, shell = field_and_shell(0, ())
        self.assertEqual([shell.execute(query) for query in QUERIES], [";", "none", "none", "none"])
        field.push(0, 5)
        self.assertEqual([shell.execute(query) for query in QUERIES], ["; 0@5", "5", "5", "0@5"])

    def test_a_finish_of_zero(self):
        field, shell = field_and_shell(1, ())
        self.assertEqual([shell.execute(query) for query in QUERIES], ["; 0@0", "0", "0", "0@0"])

    def test_no_push_any_more(self):
        field, shell = field_and_shell(1)
        self.assertEqual(shell.execute("pull 0"), "ok 2")
        self.assertEqual([shell.execute(query) for query in QUERIES], ["0:2 1:3;", "none", "none", "none"])


class UnknownTest(Case):

    def test_too_few_and_too_many_words(self):
        for name, many in NUMBERS.items():
            for words in range(5):
                if words != many:
                    self.check_unknown(" ".join([name] + ["1"] * words))

    def test_extra_spaces(self):
        for name, many in NUMBERS.items():
            words = [name] + ["1"] * many
            line = " ".join(words)
            for wrong in (" " + line, line + " ", "  " + line, line + "  "):
                self.check_unknown(wrong)
            for index in range(1, len(words)):
                self.check_unknown(" ".join(words[:index]) + "  " + " ".join(words[index:]))
        for line in ("", " ", "  "):
            self.check_unknown(line)

    def test_line_feeds_and_other_white_space(self):
        for name, many in NUMBERS.items():
            line = " ".join([name] + ["1"] * many)
            for space in ("\n", "\t", "\r", "\x0b", "\x0c", "\xa0", "\u2003"):
                self.check_unknown(line + space)
                self.check_unknown(space + line)
                if many:
                    self.check_unknown(line.replace(" ", space))

    def test_other_letters(self):
        for name, many in NUMBERS.items():
            rest = ["1"] * many
            for wrong in (name.upper(), name.capitalize(), name[:-1], name + "s", name[1:], name + ";", name + "1"):
                self.check_unknown(" ".join([wrong] + rest))
        for name in ("attempt", "state", "walk", "edits", "read", "tree", "len", "known", "shot", "none", "ok"):
            for many in range(3):
                self.check_unknown(" ".join([name] + ["1"] * many))

    def test_numbers_that_are_written_otherwise(self):
        for word in ("00", "01", "001", "-1", "+1", "-0", "+0", "1_0", "_1", "1_", "0x1", "1.0", "1e0", "a", "1a",
                     "(1)", "True", "None", "0@1", "\u0661", "\uff11", "\u00b9", "1\n", "\n1"):
            for line in (f"push {word} 1", f"push 1 {word}", f"pull {word}", f"stretch {word} 1", f"stretch 1 {word}"):
                self.check_unknown(line)

    def test_numbers_of_ten_and_eleven_digits(self):
        for number in ("1" * 11, "9" * 11, "1" + "0" * 10, "0" * 11, "1" * 300, "9" * 5000):
            for line in (f"push {number} 1", f"push 1 {number}", f"pull {number}", f"stretch 1 {number}"):
                self.check_unknown(line)
        field, shell = field_and_shell(2)
        self.check_error(field, shell, "pull " + "1" * 10, "NoPush")
        self.check_error(field, shell, "pull " + "9" * 10, "NoPush")

    def test_values_that_are_no_texts(self):
        for value in any_values():
            with self.subTest(value=value):
                self.check_unknown(value)
        for value in (b"undo", ["undo"], ("undo",), ["push", 0, 1], {"undo": 1}, 0, True):
            self.check_unknown(value)

    def test_a_line_of_very_many_words(self):
        self.check_unknown("undo" + " 1" * 1000)
        self.check_unknown(" " * 2000)
        self.check_unknown("push 1 1 " * 200)


class SeveralShellsTest(Case):

    def test_two_shells_on_one_field(self):
        field = Field(T)
        one, other = Shell(field), Shell(field)
        self.assertEqual([one.execute("push 0 1"), other.execute("push 2 0"), one.execute("needed")],
                         ["ok 1", "ok 2", "0@1 2@0"])
        self.assertEqual([other.execute("undo"), one.execute("undo"), other.execute("undo")],
                         ["ok 1", "ok 0", "error NothingToUndo"])

    def test_two_fields(self):
        one, other = Shell(Field(T)), Shell(Field(T))
        self.assertEqual([one.execute("push 0 1"), other.execute("falls"), one.execute("falls")],
                         ["ok 1", "none", "1 3 6"])

    def test_a_shell_on_a_watched_field(self):
        field = WatchedField(T, (0, 2))
        shell = Shell(field)
        self.assertEqual([shell.execute("push 0 1"), shell.execute("push 2 4")], ["ok 1", "ok 2"])
        self.assertEqual(field.known, ((1, 1), (1, 3), (4, 4)))
        self.check_queries(field, shell)
        self.check_error(field, shell, "pull 2", "NoPush")
        self.assertEqual(shell.execute("undo"), "ok 1")
        self.assertEqual(field.known, ((1, 1), (3, 3), (6, 6)))

    def test_a_field_that_was_read(self):
        shell = Shell(Field.read("0:2 1:3; 0@1 2@0"))
        self.assertEqual([shell.execute("undo"), shell.execute("field"), shell.execute("pull 1")],
                         ["error NothingToUndo", "0:2 1:3; 0@1 2@0", "ok 1"])

    def test_edits_of_the_field_itself(self):
        field = Field(T)
        shell = Shell(field)
        for edit in [("push", 0, 1), ("stretch", 1, 4), ("push", 2, 0), ("pull", 0)]:
            do_edit(field, edit)
            self.check_queries(field, shell)


if __name__ == "__main__":
    unittest.main()
