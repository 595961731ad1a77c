"""rule.changed(change)."""

import random
import unittest

from salebids.errors import InvalidChange
from salebids.rules import Rule
from tests.samples import Agrees, Refuses, any_text, caught, odd_values, reads

LINES = (("x", "low 1 a b"), ("y", "high 1 x 5"), ("z", "high 2 a x y"))
ROWS = ("if a < b: keep", "if x <= y: sell 1 at z", "sell b at x")


def rule():
    return Rule(("a", "b"), LINES, ROWS)


class Changed(unittest.TestCase):
    def refuses(self, change):
        self.assertIs(caught(InvalidChange, rule().changed, change).given, change)

    def test_a_line(self):
        before = rule()
        after = before.changed(("line", "y", "low 2 x b"))
        self.assertEqual(after, Rule(("a", "b"), (LINES[0], ("y", "low 2 x b"), LINES[2]), ROWS))
        self.assertEqual(before, rule())
        self.assertEqual(before.changed(change=("line", "y", "low 2 x b")), after)
        self.assertEqual(after.value("y", (3, 7)), 7)

    def test_each_line_and_each_row(self):
        for at, (name, term) in enumerate(LINES):
            after = rule().changed(("line", name, "low 1 7"))
            self.assertEqual(after.lines, LINES[:at] + ((name, "low 1 7"),) + LINES[at + 1:])
            self.assertEqual((after.seats, after.rows), (("a", "b"), ROWS))
        for at, row in enumerate(("if a < b: sell 2 at z", "if 5 < 5: keep", "keep")):
            after = rule().changed(("row", at, row))
            self.assertEqual(after.rows, ROWS[:at] + (row,) + ROWS[at + 1:])
            self.assertEqual((after.seats, after.lines), (("a", "b"), LINES))

    def test_the_same_term_or_row(self):
        for name, term in LINES:
            self.assertEqual(rule().changed(("line", name, term)), rule())
        for at, row in enumerate(ROWS):
            self.assertEqual(rule().changed(("row", at, row)), rule())

    def test_what_is_no_tuple_of_three(self):
        for value in odd_values():
            self.refuses(value)
        for change in (
            (), ("line",), ("line", "x"), ("line", "x", "low 1 a", 1), ["line", "x", "low 1 a"], ("row", 0),
            ("row", 2, "keep", None), ["row", 2, "keep"], (("line", "x", "low 1 a"),), "row",
        ):
            self.refuses(change)

    def test_other_kinds(self):
        for kind in odd_values() + ["lines", "Line", "rows", "Row", "seat", "line ", "a", Agrees(), Refuses()]:
            self.refuses((kind, "x", "low 1 a"))
            self.refuses((kind, 2, "keep"))
        self.refuses(("row", "x", "low 1 a"))
        self.refuses(("line", 2, "keep"))
        self.refuses(("line", 0, "low 1 a"))
        self.refuses(("row", 0, "low 1 a"))

    def test_names_that_are_no_lines(self):
        for name in odd_values() + ["a", "b", "w", "X", "x ", ("x",), ["x"], Agrees(), Refuses()]:
            self.refuses(("line", name, "low 1 a"))

    def test_terms_that_are_none_there(self):
        for name, term in LINES:
            for value in odd_values() + ["low 2 a", "high 0 a", "low 1 a ", "low 1", "keep", "low 1 1000000000001"]:
                self.refuses(("line", name, value))
            self.refuses(("line", name, f"low 1 {name}"))
            self.refuses(("line", name, "low 1 z"))
        self.refuses(("line", "x", "low 1 y"))
        self.assertEqual(rule().changed(("line", "z", "low 1 y"))["z"], "low 1 y")

    def test_indexes_that_are_none(self):
        for index in [value for value in odd_values() if value.__class__ is not int] + [3, 4, -1, -3, 10 ** 39, "0"]:
            self.refuses(("row", index, "if a < b: keep"))
            self.refuses(("row", index, "keep"))
        self.refuses(("row", False, "if a < b: keep"))
        self.refuses(("row", True, "if a < b: keep"))

    def test_rows_that_are_none_there(self):
        for at in range(3):
            for value in odd_values() + ["keep ", "if a < b: sell 3 at a", "sell 3 at a", "sell 1 at w", "low 1 a"]:
                self.refuses(("row", at, value))
        self.refuses(("row", 0, "keep"))
        self.refuses(("row", 1, "sell 1 at a"))
        self.refuses(("row", 2, "if a < b: keep"))

    def test_rules_without_lines_and_with_one_row(self):
        small = Rule(("a",), (), ("keep",))
        self.assertEqual(small.changed(("row", 0, "sell 1 at a")), Rule(("a",), (), ("sell 1 at a",)))
        change = ("line", "x", "low 1 a")
        self.assertIs(caught(InvalidChange, small.changed, change).given, change)

    def test_by_chance_a_change_is_one_exactly_if_the_result_is_a_rule(self):
        dice = random.Random(6)
        for _ in range(300):
            text, other = any_text(dice), Rule.read(any_text(dice))
            before = Rule.read(text)
            written = text.split("\n")
            for at, (name, term) in enumerate(before.lines):
                for term in [term for name, term in other.lines + before.lines]:
                    expected = "\n".join(written[:at + 1] + [f"{name} = {term}"] + written[at + 2:])
                    self.check(before, ("line", name, term), expected)
            head = len(written) - len(before)
            for at in range(len(before)):
                for row in other.rows + before.rows:
                    expected = "\n".join(written[:head + at] + [row] + written[head + at + 1:])
                    self.check(before, ("row", at, row), expected)
            self.assertEqual(str(before), text)

    def check(self, before, change, expected):
        if reads(expected):
            self.assertEqual(str(before.changed(change)), expected)
        else:
            self.assertIs(caught(InvalidChange, before.changed, change).given, change)


if __name__ == "__main__":
    unittest.main()
