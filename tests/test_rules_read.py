"""Rule.read(text) and str(rule)."""

import random
import unittest

from salebids.errors import InvalidText
from salebids.rules import Rule
from tests.samples import SECOND_TEXT, any_text, caught, odd_values, reads

SIGNS = "abxz019 =<:\n-A.,_"


def one_sign_off(text):
    """All texts that a sign less, a sign more or another sign makes of this one."""
    for at in range(len(text) + 1):
        yield text[:at] + text[at + 1:]
        for sign in SIGNS:
            yield text[:at] + sign + text[at:]
            yield text[:at] + sign + text[at + 1:]


def read_or_none(text):
    try:
        return Rule.read(text)
    except InvalidText as error:
        assert error.given is text
        return None


class Read(unittest.TestCase):
    def check(self, text):
        rule = read_or_none(text)
        self.assertEqual(rule is not None, reads(text), text)
        if rule is not None:
            self.assertEqual(str(rule), text)
            self.assertEqual(Rule(rule.seats, rule.lines, rule.rows), rule)

    def test_the_example_of_the_interface(self):
        second = Rule.read(SECOND_TEXT)
        self.assertEqual(
            [second.seats, len(second), second["ask"], second.value("ask", (7, 30, 12)), second.outcome((7, 30, 12)),
             second.outcome((7, 3, 90))],
            [("a", "b", "c"), 2, "high 2 a b c 10", 12, ("b", 12), ("a", 10)],
        )
        self.assertEqual(second.lines, (("ask", "high 2 a b c 10"),))
        self.assertEqual(second.rows, ("if b < 10: sell a at 10", "sell 1 at ask"))
        self.assertEqual(str(second), SECOND_TEXT)

    def test_by_name_and_off_an_object(self):
        self.assertEqual(Rule.read(text=SECOND_TEXT), Rule.read(SECOND_TEXT))
        self.assertEqual(Rule.read("seats a\nkeep").read(SECOND_TEXT), Rule.read(SECOND_TEXT))

    def test_what_is_no_string(self):
        for value in odd_values() + [("seats a", "keep"), ["seats a", "keep"], b"seats a\nkeep", Rule.read(SECOND_TEXT)]:
            self.assertIs(caught(InvalidText, Rule.read, value).given, value)

    def test_texts_that_just_miss_or_keep_the_form(self):
        for text in (
            "seats a\nkeep", "seats a\nsell 1 at a", "seats a b c d\nkeep", "seats a\nx = low 1 a\nsell a at x",
            "seats seats\nif = low 1 seats\nsell = low 1 if\nkeep = high 1 sell\nsell 1 at keep",
            "seats if\nif if < if: keep\nsell if at if", "seats a\nseats = low 1 a\nsell 1 at seats",
        ):
            self.assertEqual(str(Rule.read(text)), text)
            self.assertTrue(reads(text))
        for text in (
            "", "\n", "seats", "seats ", "seats a", "seats a\n", "seats a\nkeep\n", "\nseats a\nkeep", "seats\nkeep",
            "seats \nkeep", "seats  a\nkeep", "seats a \nkeep", " seats a\nkeep", "Seats a\nkeep", "seat a\nkeep",
            "a\nkeep", "keep", "seats a a\nkeep", "seats a b c d e\nkeep", "seats a,b\nkeep", "seats A\nkeep",
            "seats a\n\nkeep", "seats a\nkeep\nkeep", "seats a\nkeep\nx = low 1 a", "seats a\nx = low 1 a",
            "seats a\nx=low 1 a\nkeep", "seats a\nx = low 1 x\nkeep", "seats a\na = low 1 a\nkeep",
            "seats a\nx = low 1 a\nx = low 1 a\nkeep", "seats a\nx = y = low 1 a\nkeep", "seats a\n = low 1 a\nkeep",
            "seats a\nx = \nkeep", "seats a\nif a < a: keep", "seats a\nsell a at x\nx = low 1 a",
            "seats a\nif a < a: keep\nx = low 1 a\nkeep", "seats a\nx = low 1 y\ny = low 1 a\nkeep",
            "seats a\nkeep\nseats a\nkeep", "seats a\nlines\nkeep", "seats a\r\nkeep", "seats a\tb\nkeep",
        ):
            self.assertEqual(caught(InvalidText, Rule.read, text).given, text)
            self.assertFalse(reads(text))

    def test_most_lines_and_most_rows(self):
        def text(lines, rows):
            named = [f"x{at} = low 1 a" for at in range(lines)]
            return "\n".join(["seats a"] + named + ["if a < 1: keep"] * (rows - 1) + ["keep"])

        self.assertEqual(len(Rule.read(text(8, 6))), 6)
        self.assertEqual(len(Rule.read(text(8, 6)).lines), 8)
        self.assertEqual(caught(InvalidText, Rule.read, text(9, 6)).given, text(9, 6))
        self.assertEqual(caught(InvalidText, Rule.read, text(8, 7)).given, text(8, 7))

    def test_all_texts_that_are_one_sign_off(self):
        rows = "if x <= 10: sell b at 0\nsell 2 at x"
        for text in (SECOND_TEXT, "seats a b\nx = low 2 a b b\n" + rows):
            for other in one_sign_off(text):
                self.check(other)

    def test_texts_by_chance(self):
        dice = random.Random(8)
        for _ in range(400):
            text = any_text(dice)
            self.assertTrue(reads(text), text)
            self.check(text)
            rows = text.split("\n")
            moved = list(rows)
            dice.shuffle(moved)
            self.check("\n".join(moved))
            self.check("\n".join(rows[:-1]))
            self.check("\n".join(rows[:1] + rows[2:]))
            words = text.split(" ")
            for _ in range(10):
                at, other = dice.randrange(len(words)), dice.randrange(len(words))
                self.check(" ".join(words[:at] + [words[other]] + words[at + 1:]))
                self.check(" ".join(words[:at] + words[at + 1:]))


if __name__ == "__main__":
    unittest.main()
