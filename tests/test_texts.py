"""Tests of marktopples.texts: point [18], and what point [3] says of it."""

import random
import unittest

from marktopples import texts
from marktopples.errors import BadText, FallError
from marktopples.texts import field_text, parse_field
from tests.samples import (
    LAST_TICK, LONGEST, SEVERAL, T, any_values, chain, check_call, check_interface, check_raises, random_tree, star,
)

# Rows 0 to 10, all with parent 0, and pushes of the tree of twelve marks.
ROWS = ["0:7"] * 11
PUSHES = ["0@5", "11@0"] * 10


def plain_text(tree, pushes):
    """Return the text in the words of the document."""
    text = ""
    for parent, length in tree:
        text += ("" if text == "" else " ") + str(parent) + ":" + str(length)
    text += ";"
    for mark, tick in pushes:
        text += " " + str(mark) + "@" + str(tick)
    return text


def random_pushes(chance, marks, many):
    return tuple((chance.randrange(marks), chance.choice([0, 7, LAST_TICK])) for _ in range(many))


class ExampleTest(unittest.TestCase):

    def test_field_text(self):
        found = [field_text(T, ((0, 1), (2, 0))), field_text((), ((0, 5),)), field_text((), ())]
        self.assertEqual(repr(found), "['0:2 1:3; 0@1 2@0', '; 0@5', ';']")

    def test_parse_field(self):
        check_raises(self, BadText, "index", 3, parse_field, "0:2 1:3; 0@1 3@0")

    def test_texts_of_the_point(self):
        self.assertEqual(parse_field("0:2 1:3; 0@1 2@0"), (T, ((0, 1), (2, 0))))
        self.assertEqual(parse_field("0:2;"), (((0, 2),), ()))
        self.assertEqual(parse_field("; 0@5"), ((), ((0, 5),)))
        self.assertEqual(parse_field(";"), ((), ()))


class InterfaceTest(unittest.TestCase):

    def test_functions_are_defined_in_the_file(self):
        check_interface(self, texts, {"field_text": ["tree", "pushes"], "parse_field": ["value"]})


class ThereAndBackTest(unittest.TestCase):

    def check_text(self, tree, pushes):
        text = check_call(self, field_text, tree, pushes)
        self.assertEqual(text, plain_text(tree, pushes))
        self.assertEqual(check_call(self, parse_field, text), (tree, pushes))
        self.assertEqual(repr(parse_field(text)), repr((tree, pushes)))

    def test_one_to_twelve_marks_and_up_to_twenty_pushes(self):
        chance = random.Random(71)
        for marks in range(1, 13):
            for many in range(21):
                tree = random_tree(chance, marks, chance.choice([1, 10, LONGEST]))
                self.check_text(tree, random_pushes(chance, marks, many))

    def test_no_rows_no_pushes_and_neither(self):
        self.check_text((), ())
        for tree in SEVERAL:
            self.check_text(tree, ())
        for many in (1, 2, 20):
            self.check_text((), ((0, 3),) * many)

    def test_bounds(self):
        for length in (1, 9, 10, LONGEST - 1, LONGEST):
            self.check_text(chain(12, length), ((11, 0),))
            self.check_text(star(12, length), ((11, LAST_TICK),))
        for tick in (0, 9, 10, LAST_TICK - 1, LAST_TICK):
            self.check_text((), ((0, tick),))
            self.check_text(chain(12), ((0, tick), (11, tick)))


class BadTextTest(unittest.TestCase):

    def check_bad(self, text, index):
        check_raises(self, BadText, "index", index, parse_field, text)

    def check_words(self, rows, pushes, index):
        """The words of the rows, ";" behind the last one, and those of the pushes."""
        self.check_bad(" ".join(rows) + "; " + " ".join(pushes), index)

    def test_values_that_are_no_texts(self):
        for value in any_values():
            with self.subTest(value=value):
                if not isinstance(value, str):
                    self.check_bad(value, None)
        for value in (b"0:2;", [";"], (";",), {";": ";"}):
            self.check_bad(value, None)

    def test_texts_among_the_values(self):
        for value in any_values():
            if isinstance(value, str):
                self.check_bad(value, 0)

    def test_it_is_a_fall_error(self):
        with self.assertRaises(FallError):
            parse_field("")

    def test_empty_text_and_spaces(self):
        self.check_bad("", 0)
        self.check_bad(" ", 0)
        self.check_bad("  ", 0)
        self.check_bad(" ;", 0)
        self.check_bad("  ;", 0)
        self.check_bad("; ", 1)
        self.check_bad(";  ", 1)
        self.check_bad(" ; ", 0)

    def test_one_two_and_three_spaces_in_a_row(self):
        words = ["0:2", "1:3;", "0@1", "2@0"]
        self.assertEqual(parse_field(" ".join(words)), (T, ((0, 1), (2, 0))))
        for index in (1, 2, 3):
            for spaces in ("  ", "   "):
                self.check_bad(" ".join(words[:index]) + spaces + " ".join(words[index:]), index)

    def test_spaces_at_either_end(self):
        for spaces in (" ", "  "):
            self.check_bad(spaces + "0:2 1:3; 0@1", 0)
            self.check_bad("0:2 1:3; 0@1" + spaces, 3)
            self.check_bad("0:2 1:3;" + spaces, 2)
            self.check_bad("0:2 1:3" + spaces, 2)

    def test_line_feeds_and_other_white_space(self):
        for space in ("\n", "\t", "\r", "\x0b", "\xa0", "\u2003"):
            self.check_bad("0:2" + space + "1:3; 0@1", 0)
            self.check_bad(space + "0:2 1:3; 0@1", 0)
            self.check_bad("0:2 1:3;" + space + "0@1", 1)
            self.check_bad("0:2 1:3; 0@1" + space, 2)
            self.check_bad("0:2 1:3;" + space, 1)
            self.check_bad("0:2 1:3; " + space, 2)
            self.check_bad(space + ";", 0)
            self.check_bad(";" + space, 0)

    def test_a_semicolon_that_is_missing(self):
        self.check_bad("0:2", 1)
        self.check_bad("0:2 1:3", 2)
        self.check_bad("0:2 0@1", 1)
        self.check_bad("0@1", 0)
        for many in range(1, 12):
            self.check_bad(" ".join(ROWS[:many]), many)
        self.check_bad(" ".join(ROWS + ["0:7"]), 11)
        self.check_bad(" ".join(ROWS + ["0:7", "0:7"]), 11)
        self.check_bad(" ".join(ROWS + ["0@5"]), 11)

    def test_a_semicolon_that_is_doubled(self):
        self.check_bad(";;", 0)
        self.check_bad(";;;", 0)
        self.check_bad("; ;", 1)
        self.check_bad("0:2;;", 0)
        self.check_bad("0:2 1:3;; 0@1", 1)
        self.check_bad("0:2; 1:3; 0@1", 1)
        self.check_bad("0:2 1:3; ; 0@1", 2)

    def test_a_semicolon_alone_at_another_place_than_the_first(self):
        self.check_bad("0:2 ;", 1)
        self.check_bad("0:2 1:3 ; 0@1", 2)
        self.check_bad("0:2 ; 1:3", 1)
        for many in range(1, 12):
            self.check_bad(" ".join(ROWS[:many] + [";"]), many)
            self.check_bad(" ".join(ROWS[:many] + [";", "0@5"]), many)

    def test_a_semicolon_ahead_of_a_word(self):
        self.check_bad(";0:2", 0)
        self.check_bad("0:2 ;1:3", 1)
        self.check_bad("0:2; ;0@1", 1)
        self.check_bad(";0@5", 0)
        self.check_bad("; ;0@5", 1)
        self.check_bad(";0:2;", 0)
        self.check_bad("0:2;1:3;", 0)

    def test_a_semicolon_behind_a_push(self):
        self.check_bad("0:2; 0@1;", 1)
        self.check_bad("0:2; 0@1; 1@0", 1)
        self.check_bad("; 0@5;", 1)
        self.check_bad("0@5;", 0)
        self.check_bad("0:2 0@5;", 1)

    def test_numbers_that_are_written_otherwise(self):
        for zero in ("00", "-0", "+0", "0_0", "", "o", "0.", "0x0", "0 ", "\u0660", "\uff10", "0\n", "\u00b2"):
            if " " not in zero:
                self.check_bad(zero + ":2;", 0)
                self.check_bad("0:2; " + zero + "@1", 1)
                self.check_bad("0:2; 0@" + zero, 1)
        for two in ("02", "002", "-2", "+2", "2_0", "2_", "_2", "", "2.0", "2e0", "0x2", "\u0662", "\u00b2", "2\n"):
            self.check_bad("0:" + two + ";", 0)
            self.check_bad("0:5 0:" + two + ";", 1)
            self.check_bad("0:5; 0@" + two, 1)
            self.check_bad("0:5 0:5 1:" + two, 2)

    def test_numbers_of_many_digits(self):
        for number in ("1" * 11, "9" * 11, "1" + "0" * 10, "0" * 11, "1" * 300, "0" * 300, "9" * 900):
            self.check_bad("0:" + number + ";", 0)
            self.check_bad(number + ":2;", 0)
            self.check_bad("0:2; 0@" + number, 1)
            self.check_bad("0:2; " + number + "@0", 1)

    def test_numbers_of_thousands_of_digits(self):
        for number in ("1" * 5000, "0" * 5000):
            self.check_bad("0:" + number + ";", 0)
            self.check_bad("0:2; 0@" + number, 1)

    def test_words_of_other_forms(self):
        for word in ("0", ":", "0:", ":2", "0:2:", "0:2:3", "0::2", "0@2", "0;2", "(0, 2)", "0,2", "0:2,", "0 :2"):
            self.check_bad(word + ";", 0)
            self.check_bad("0:2 " + word + ";", 1)
        for word in ("0", "@", "0@", "@2", "0@2@", "0@2@3", "0@@2", "0:2", "0;2", "(0, 2)", "0,2", "0@2,", "0 @2"):
            self.check_bad("0:2; " + word, 1)
            self.check_bad("0:2; 0@1 " + word, 2)

    def test_parents_at_the_bound(self):
        for index in range(11):
            rows = ROWS[:index] + [f"{index}:1"]
            self.assertEqual(parse_field(" ".join(rows) + ";")[0][index], (index, 1))
            rows[index] = f"{index + 1}:1"
            self.check_bad(" ".join(rows) + ";", index)
            rows[index] = "11:1"
            self.check_bad(" ".join(rows) + ";", index)

    def test_lengths_at_the_bounds(self):
        for index in range(11):
            for length, good in [(0, False), (1, True), (LONGEST, True), (LONGEST + 1, False)]:
                rows = ROWS[:index] + [f"0:{length}"]
                if good:
                    self.assertEqual(parse_field(" ".join(rows) + ";")[0][index], (0, length))
                else:
                    self.check_bad(" ".join(rows) + ";", index)
                    self.check_words(rows + ROWS[index + 1:], ["0@5"], index)

    def test_eleven_and_twelve_rows(self):
        self.assertEqual(parse_field(" ".join(ROWS) + ";"), (((0, 7),) * 11, ()))
        self.check_bad(" ".join(ROWS + ["0:7"]) + ";", 11)
        self.check_bad(" ".join(ROWS + ["11:7"]) + "; 0@5", 11)
        self.check_bad(" ".join(ROWS * 3) + ";", 11)
        self.check_bad(" ".join(ROWS * 2) + "; 0@5 x", 11)
        self.check_bad(" ".join(ROWS[:10] + ["x"] + ROWS) + ";", 10)

    def test_marks_of_pushes_at_the_bound(self):
        for rows in range(12):
            head = " ".join(ROWS[:rows]) + ";"
            first = max(rows, 1)
            self.assertEqual(parse_field(f"{head} {rows}@0")[1], ((rows, 0),))
            self.check_bad(f"{head} {rows + 1}@0", first)
            self.check_bad(f"{head} {rows}@0 {rows + 1}@0", first + 1)

    def test_ticks_of_pushes_at_the_bound(self):
        self.assertEqual(parse_field(f"0:2; 1@{LAST_TICK}")[1], ((1, LAST_TICK),))
        self.check_bad(f"0:2; 1@{LAST_TICK + 1}", 1)
        self.check_bad(f"0:2; 1@0 1@{LAST_TICK + 1}", 2)
        self.check_bad("; 0@9999999999", 1)

    def test_twenty_and_twenty_one_pushes(self):
        for rows in (0, 1, 5, 11):
            head = " ".join(ROWS[:rows]) + "; "
            pushes = ["0@5"] * 20
            first = max(rows, 1)
            self.assertEqual(parse_field(head + " ".join(pushes))[1], ((0, 5),) * 20)
            self.check_bad(head + " ".join(pushes + ["0@5"]), first + 20)
            self.check_bad(head + " ".join(pushes + ["0@5", "x"]), first + 20)
            self.check_bad(head + " ".join(pushes + ["x"]), first + 20)
            self.check_bad(head + " ".join(pushes[:19] + ["x", "0@5"]), first + 19)

    def test_first_wrong_word_at_each_place(self):
        self.assertEqual(parse_field(" ".join(ROWS) + "; " + " ".join(PUSHES))[1], ((0, 5), (11, 0)) * 10)
        for index in range(31):
            words = ROWS[:10] + ["0:7;"] + PUSHES
            last = index == 10
            for word in ("x", "", "0:0", "12@1", "0:7@5"):
                words[index] = word + ";" if last else word
                self.check_bad(" ".join(words), index)
                for later in range(index + 1, 31, 4):
                    if later != 10:
                        changed = words[:later] + ["x"] + words[later + 1:]
                        self.check_bad(" ".join(changed), index)

    def test_the_wrong_row_comes_before_a_missing_semicolon(self):
        self.check_bad("x", 0)
        self.check_bad("0:2 x 1:3", 1)
        self.check_bad("0:2 1:3 2:0", 2)
        self.check_bad("0:2 1:3 0@1 x", 2)

    def test_the_wrong_row_comes_before_a_wrong_push(self):
        self.check_bad("0:2 2:3; 9@1", 1)
        self.check_bad("0:0; 0@x", 0)

    def test_all_words_up_to_the_first_end_are_rows(self):
        self.check_bad("0:2 0@1 1:3;", 1)
        self.check_bad("0@1 0:2;", 0)
        self.check_bad("0:2; 1:3", 1)


if __name__ == "__main__":
    unittest.main()
