"""Rule(seats, lines, rows): what it takes, and its errors."""

import unittest

from salebids.errors import InvalidLines, InvalidRows, InvalidSeats
from salebids.rules import Rule
from tests.samples import Agrees, Refuses, caught, odd_values

KEEP = ("keep",)


def seats_index(seats, lines=None, rows=None):
    return caught(InvalidSeats, Rule, seats, lines, rows).index


def lines_index(lines, seats=("a", "b"), rows=None):
    return caught(InvalidLines, Rule, seats, lines, rows).index


def rows_index(rows, seats=("a", "b"), lines=()):
    return caught(InvalidRows, Rule, seats, lines, rows).index


class Examples(unittest.TestCase):
    def test_the_examples_of_the_interface(self):
        first = Rule(("a", "b"), (("top", "high 1 a b"),), ("if top < 5: keep", "sell 1 at top"))
        self.assertEqual(
            [str(first), first.outcome((8, 8)), first.outcome((4, 2))],
            ["seats a b\ntop = high 1 a b\nif top < 5: keep\nsell 1 at top", ("a", 8), None],
        )
        self.assertEqual(caught(InvalidRows, Rule, ("a", "b"), (), ("sell 3 at a",)).index, 0)

    def test_by_position_and_by_name(self):
        one = Rule(("a",), (("x", "low 1 a"),), ("sell a at x",))
        self.assertEqual(one, Rule(rows=("sell a at x",), seats=("a",), lines=(("x", "low 1 a"),)))
        self.assertEqual(caught(InvalidSeats, Rule, rows=5, lines=5, seats=5).index, None)

    def test_the_properties_are_what_was_passed(self):
        seats, lines, rows = ("b", "a"), (("x", "low 1 a"), ("y", "high 2 x x")), ("if x < 5: keep", "sell 2 at y")
        rule = Rule(seats, lines, rows)
        self.assertEqual((rule.seats, rule.lines, rule.rows), (seats, lines, rows))
        self.assertEqual((seats, lines, rows), (
            ("b", "a"), (("x", "low 1 a"), ("y", "high 2 x x")), ("if x < 5: keep", "sell 2 at y")))
        self.assertEqual([Rule(("a",), (), KEEP).lines, Rule(("a",), (), KEEP).rows], [(), KEEP])


class Seats(unittest.TestCase):
    def test_what_is_no_tuple(self):
        for value in odd_values():
            if not isinstance(value, tuple):
                self.assertIsNone(seats_index(value))
        self.assertIsNone(seats_index(["a", "b"]))
        self.assertIsNone(seats_index("abc"))

    def test_one_to_four(self):
        self.assertIsNone(seats_index(()))
        names = ("a", "b", "c", "d", "e", "f")
        for many in range(1, 5):
            self.assertEqual(Rule(names[:many], (), KEEP).seats, names[:many])
        self.assertEqual(seats_index(names[:5]), 4)
        self.assertEqual(seats_index(names), 4)
        self.assertEqual(seats_index(("a", "b", "c", "d", 7)), 4)
        self.assertEqual(seats_index(("a", "b", "c", 7, "e")), 3)
        self.assertEqual(seats_index(("a", "b", "c", "a", "e")), 3)

    def test_names(self):
        for name in ("a", "z", "a0", "z9", "abcdefgh", "a1234567", "if", "at", "sell", "keep", "high", "low", "seats"):
            self.assertEqual(Rule((name,), (), KEEP).seats, (name,))
        wrong = (
            "", "A", "0", "9a", "aB", "a_", "a-b", "a b", " a", "a ", "a\n", "\na", "a=", "a:", "abcdefghi", "a12345678",
            "`", "{", "a/", "a:", "a`", "a{", "_a",
        )
        for name in wrong:
            self.assertEqual(seats_index((name,)), 0)
            self.assertEqual(seats_index(("ok", name)), 1)
        for value in odd_values():
            self.assertEqual(seats_index(("ok", value, "ok")), 1)

    def test_different_ones(self):
        self.assertEqual(seats_index(("a", "a")), 1)
        self.assertEqual(seats_index(("a", "b", "c", "b")), 3)
        self.assertEqual(seats_index(("a", "a", "")), 1)
        self.assertEqual(seats_index(("a", Agrees())), 1)
        self.assertEqual(seats_index(("a", Refuses())), 1)


class Lines(unittest.TestCase):
    def test_what_is_no_tuple(self):
        for value in odd_values():
            if not isinstance(value, tuple):
                self.assertIsNone(lines_index(value))
        self.assertIsNone(lines_index([("x", "low 1 a")]))

    def test_up_to_eight(self):
        lines = tuple((f"x{at}", "low 1 a") for at in range(10))
        for many in range(9):
            self.assertEqual(Rule(("a",), lines[:many], KEEP).lines, lines[:many])
        self.assertEqual(lines_index(lines[:9]), 8)
        self.assertEqual(lines_index(lines), 8)
        self.assertEqual(lines_index(lines[:8] + (5,)), 8)
        self.assertEqual(lines_index(lines[:7] + (5,) + lines[8:]), 7)

    def test_pairs(self):
        good = ("x", "low 1 a")
        for value in odd_values():
            self.assertEqual(lines_index((value,)), 0)
            self.assertEqual(lines_index((good, value)), 1)
            self.assertEqual(lines_index((good, (value, "low 1 a"))), 1)
        for value in ((), ("y",), ("y", "low 1 a", 1), ["y", "low 1 a"], "yz", ("", "low 1 a"), ("Y", "low 1 a")):
            self.assertEqual(lines_index((good, value)), 1)
        for value in odd_values():
            self.assertEqual(lines_index((good, ("y", value))), 1)

    def test_names_of_seats_and_of_other_lines(self):
        self.assertEqual(lines_index((("a", "low 1 a"),)), 0)
        self.assertEqual(lines_index((("x", "low 1 a"), ("b", "low 1 a"))), 1)
        self.assertEqual(lines_index((("x", "low 1 a"), ("y", "low 1 a"), ("x", "low 1 a"))), 2)
        self.assertEqual(lines_index((("x", "low 1 a"), (Agrees(), "low 1 a"))), 1)
        self.assertEqual(lines_index((("x", "low 1 a"), (Refuses(), "low 1 a"))), 1)

    def test_names_of_all_lines_come_ahead_of_terms(self):
        good, bad = ("x", "low 1 a"), ("y", "low 1 nobody")
        self.assertEqual(lines_index((bad, good)), 0)
        self.assertEqual(lines_index((good, bad)), 1)
        self.assertEqual(lines_index((bad, good, 5)), 2)
        self.assertEqual(lines_index((bad, good, ("", ""))), 2)
        self.assertEqual(lines_index((bad, good, ("z", 5))), 2)
        self.assertEqual(lines_index((bad, good, ("y", "low 1 a"))), 2)
        self.assertEqual(lines_index((bad, good, ("a", "low 1 a"))), 2)
        self.assertEqual(lines_index((bad, good, ("z", "low 1 nobody"))), 0)
        self.assertEqual(lines_index((bad,) + tuple((f"x{at}", "low 1 a") for at in range(8))), 8)
        self.assertEqual(lines_index((bad,) + tuple((f"x{at}", "low 1 a") for at in range(7))), 0)


class Terms(unittest.TestCase):
    def takes(self, term):
        lines = (("up", "low 1 a"), ("x", term), ("down", "low 1 a"))
        self.assertEqual(Rule(("a", "b"), lines, KEEP)["x"], term)

    def refuses(self, term):
        self.assertEqual(lines_index((("up", "low 1 a"), ("x", term), ("down", "low 1 a"))), 1)

    def test_that_keep_the_written_form(self):
        for term in (
            "high 1 a", "low 1 a", "high 1 up", "low 2 a b", "high 6 a b up 0 1 2", "low 1 a a a a a a", "high 3 a a b",
            "low 1 0", "low 1 1000000000000", "low 1 999999999999", "high 2 10 10",
        ):
            self.takes(term)

    def test_that_miss_the_written_form(self):
        for term in (
            "", "high", "high ", "high 1", "high 1 ", "low 1  a", "low  1 a", " low 1 a", "low 1 a ", "low 1 a\n",
            "low 1 a\nb", "low 1\ta", "High 1 a", "hig 1 a", "highs 1 a", "lo 1 a", "mid 1 a", "1 a", "low a",
            "low a 1", "low 1 a,b", "low1 a", "low 1a", "low 0 a", "low 2 a", "low 01 a", "low -1 a", "low +1 a",
            "low 1.0 a", "low a a", "high 7 a b up 0 1 2", "high 0 a b up 0 1 2", "high 3 a b", "low 1 a b up 0 1 2 3",
            "low 7 a b up 0 1 2 3", "low 10 a", "low 1 a = b", "x = low 1 a", "low 1 high 1 a",
        ):
            self.refuses(term)

    def test_parts(self):
        for part in (
            "c", "x", "down", "A", "", "00", "01", "007", "-1", "+1", "-0", "1_0", "1,0", "1.0", "1e3", "0x1",
            "1000000000001", "2000000000000", "9999999999999", "10000000000000", "01000000000000", "0a", "a0", "1a",
            "9" * 3900, "a" * 3900, "up:", "(a)", "None", "=",
        ):
            self.refuses(f"low 1 {part}")
            self.refuses(f"low 1 a {part} b")

    def test_words_of_rules_as_names(self):
        lines = (("low", "high 1 high"), ("seats", "low 2 low high 2"))
        rule = Rule(("high",), lines, KEEP)
        self.assertEqual(rule.lines, lines)
        self.assertEqual(rule.value("seats", (7,)), 7)


class Rows(unittest.TestCase):
    def takes(self, row):
        lines = (("x", "low 1 a"),)
        self.assertEqual(Rule(("a", "b"), lines, (row,)).rows, (row,))
        rows = ("if a < b: keep", f"if a < b: {row}", "keep")
        self.assertEqual(Rule(("a", "b"), lines, rows).rows, rows)

    def refuses(self, row):
        lines = (("x", "low 1 a"),)
        self.assertEqual(rows_index((row,), lines=lines), 0)
        self.assertEqual(rows_index(("if a < b: keep", row), lines=lines), 1)
        self.assertEqual(rows_index(("if a < b: keep", f"if a < b: {row}", "keep"), lines=lines), 1)

    def test_what_is_no_tuple(self):
        for value in odd_values():
            if not isinstance(value, tuple):
                self.assertIsNone(rows_index(value))
        self.assertIsNone(rows_index(["keep"]))
        self.assertIsNone(rows_index("keep"))

    def test_one_to_six(self):
        self.assertIsNone(rows_index(()))
        early = ("if a < b: keep",)
        for many in range(6):
            self.assertEqual(len(Rule(("a", "b"), (), early * many + KEEP)), many + 1)
        self.assertEqual(rows_index(early * 6 + KEEP), 6)
        self.assertEqual(rows_index(early * 7 + KEEP), 6)
        self.assertEqual(rows_index(early * 6 + (5,)), 6)
        self.assertEqual(rows_index(early * 5 + (5,) + KEEP), 5)
        self.assertEqual(rows_index(early * 5 + KEEP + KEEP), 5)

    def test_strings(self):
        for value in odd_values():
            self.assertEqual(rows_index((value,)), 0)
            self.assertEqual(rows_index((value, "keep")), 0)
            self.assertEqual(rows_index(("if a < b: keep", value, "keep")), 1)

    def test_all_but_the_last_one_have_a_condition(self):
        self.assertEqual(rows_index(("if a < b: keep",)), 0)
        self.assertEqual(rows_index(("keep", "keep")), 0)
        self.assertEqual(rows_index(("sell 1 at a", "keep")), 0)
        self.assertEqual(rows_index(("if a < b: keep", "if a < b: keep")), 1)
        self.assertEqual(rows_index(("if a < b: keep", "keep", "keep")), 1)

    def test_what_is_done(self):
        for row in (
            "keep", "sell a at b", "sell b at x", "sell 1 at a", "sell 2 at 0", "sell 2 at 1000000000000",
            "sell a at a",
        ):
            self.takes(row)
        for row in (
            "", " ", "keep ", " keep", "Keep", "keeps", "kee", "keep\n", "keep keep", "keep at a", "sell", "sell a",
            "sell a at", "sell a at ", "sell  a at b", "sell a  at b", "sell a at  b", " sell a at b", "sell a at b ",
            "sell a at b\n", "sell a at b c", "sell a b", "sell at b", "sell a for b", "sell a At b", "Sell a at b",
            "sel a at b", "sell a ata b", "sell x at b", "sell c at b", "sell 0 at b", "sell 3 at b", "sell 4 at b",
            "sell 9 at b", "sell 01 at b", "sell 10 at b", "sell -1 at b", "sell +1 at b", "sell a at c", "sell a at -1",
            "sell a at 01", "sell a at 1000000000001", "sell 1 at low 1 a", "sell 1 at high", "keep: keep",
        ):
            self.refuses(row)

    def test_the_number_of_seats_is_the_greatest_k(self):
        names = ("a", "b", "c", "d")
        for many in range(1, 5):
            for place in range(6):
                row = f"sell {place} at a"
                if 1 <= place <= many:
                    self.assertEqual(Rule(names[:many], (), (row,)).rows, (row,))
                else:
                    self.assertEqual(rows_index((row,), seats=names[:many]), 0)

    def test_conditions(self):
        for condition in (
            "if a < b: ", "if a <= b: ", "if a < a: ", "if 0 < x: ", "if 1000000000000 <= 0: ", "if x <= 7: ",
        ):
            rows = (condition + "keep", "sell a at b")
            self.assertEqual(Rule(("a", "b"), (("x", "low 1 a"),), rows).rows, rows)
        for condition in (
            "", " ", ": ", "if : ", "if a: ", "if a <: ", "if a < : ", "if < b: ", "if a < b:", "if a < b ", "if a < b",
            "if a < b:  ", "if a < b : ", "if a  < b: ", "if  a < b: ", "if a <  b: ", " if a < b: ", "if a<b: ",
            "if a <b: ", "if a > b: ", "if a >= b: ", "if a == b: ", "if a = b: ", "if a =< b: ", "if a << b: ",
            "If a < b: ", "iff a < b: ", "a < b: ", "when a < b: ", "if a < b: if a < b: ", "if a < b < a: ",
            "if a < b and a < b: ", "if a < c: ", "if c < a: ", "if 01 < a: ", "if -1 < a: ", "if a < -1: ",
            "if a < 1000000000001: ", "if a < b:\n", "if a < b\n: ", "if not a < b: ", "if a < b; ",
        ):
            self.assertEqual(rows_index((condition + "keep", "keep"), lines=(("x", "low 1 a"),)), 0, condition)

    def test_all_lines_are_parts_of_rows(self):
        lines = (("x", "low 1 a"), ("y", "low 1 x"))
        rows = ("if y < x: sell 1 at x", "if x <= y: sell b at y", "sell a at x")
        self.assertEqual(Rule(("a", "b"), lines, rows).rows, rows)

    def test_words_of_rules_as_names(self):
        rule = Rule(("if", "at", "sell", "keep"), (), ("if if < at: sell at at at", "sell keep at sell"))
        self.assertEqual(rule.outcome((1, 2, 3, 4)), ("at", 2))
        self.assertEqual(rule.outcome((2, 2, 3, 4)), ("keep", 3))


class Order(unittest.TestCase):
    def test_seats_then_lines_then_rows(self):
        self.assertEqual(seats_index(("a", "a"), ("x",), ()), 1)
        self.assertEqual(lines_index((5,), rows=()), 0)
        self.assertEqual(lines_index((("x", "low 9 a"),), rows=(5,)), 0)
        self.assertEqual(rows_index((5,), lines=(("x", "low 1 a"),)), 0)


if __name__ == "__main__":
    unittest.main()
