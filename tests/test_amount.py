"""amount(rule, question, case): questions, their cases, and the amount of each case."""

import random
import unittest

from salebids.asking import amount
from salebids.errors import InvalidCase, InvalidQuestion
from salebids.rules import Rule
from tests.reckoning import cases, every_question, small_text, table
from tests.samples import Agrees, Refuses, caught, first, odd_values, second

LOW = "seats a b\nnext = low 1 a b\nsell 1 at next"
DEAR = Rule.read("seats a b c\nif c < 1: sell a at 7\nif b < 5: keep\nsell 2 at 3")


class Amounts(unittest.TestCase):
    def check(self, rule, question, bids, moved, worth):
        self.assertEqual(amount(rule, question, (bids, moved)), worth)
        self.assertEqual(amount(rule=rule, question=question, case=(bids, moved)), worth)

    def test_the_example(self):
        self.check(first(), ("lie", "a"), (9, 5), (5, 5), 4)

    def test_lie(self):
        self.check(first(), ("lie", "a"), (9, 5), (9, 5), 0)
        self.check(first(), ("lie", "a"), (9, 5), (4, 5), 0)
        self.check(first(), ("lie", "a"), (4, 5), (6, 5), -2)
        self.check(first(), ("lie", "b"), (4, 9), (4, 6), 3)
        self.check(first(), ("lie", "b"), (5, 9), (5, 5), 0)
        self.check(DEAR, ("lie", "a"), (2, 0, 0), (9, 0, 0), 0)
        self.check(DEAR, ("lie", "c"), (2, 9, 5), (2, 9, 12), 2 - 4)
        # The seat gets the thing above its value, and gives that up.
        self.check(DEAR, ("lie", "c"), (9, 9, 1), (9, 9, 9), 0)
        self.check(DEAR, ("lie", "b"), (9, 5, 5), (9, 4, 5), -2)

    def test_ring(self):
        self.check(first(), ("ring", ("a",)), (9, 5), (5, 5), 4)
        self.check(first(), ("ring", ("a", "b")), (9, 8), (5, 0), 4)
        self.check(first(), ("ring", ("a", "b")), (9, 8), (0, 5), 3)
        self.check(first(), ("ring", ("a", "b")), (9, 8), (0, 0), 0)
        self.check(first(), ("ring", ("a", "b")), (4, 4), (0, 5), -1)
        self.check(DEAR, ("ring", ("a", "b", "c")), (2, 8, 0), (9, 10, 1), (2 - 3) - (2 - 7))
        self.check(DEAR, ("ring", ("a", "c")), (2, 8, 0), (9, 8, 8), -(2 - 7))
        self.check(DEAR, ("ring", ("b", "c")), (2, 8, 0), (2, 8, 8), 0 - 3)
        self.check(DEAR, ("ring", ("b",)), (2, 8, 9), (2, 9, 9), -(8 - 3))

    def test_names(self):
        low = Rule.read(LOW)
        self.check(low, ("names", "a", "b"), (6, 0), (6, 4), -4)
        self.check(low, ("names", "a", "b"), (6, 0), (2, 9), -2)
        self.check(low, ("names", "b", "a"), (0, 6), (5, 5), -5)
        self.check(DEAR, ("names", "a", "c"), (2, 9, 0), (2, 9, 1), (2 - 3) - (2 - 7))
        self.check(DEAR, ("names", "a", "c"), (2, 4, 0), (2, 4, 1), 0 - (2 - 7))
        self.check(DEAR, ("names", "a", "c"), (4, 9, 0), (0, 9, 8), (4 - 3) - (4 - 7))
        # The value is the bid of the one name, also where the thing goes to the other one.
        self.check(DEAR, ("names", "c", "a"), (0, 9, 6), (7, 9, 6), (6 - 3) - (6 - 3))
        self.check(DEAR, ("names", "c", "a"), (0, 9, 0), (7, 9, 6), 0 - 3 - (0 - 7))

    def test_seller(self):
        low = Rule.read(LOW)
        self.check(low, ("seller", "b"), (7, 0), (7, 7), 7)
        self.check(low, ("seller", "b"), (7, 0), (7, 8), 0)
        self.check(low, ("seller", "a"), (0, 7), (6, 7), 6)
        self.check(low, ("seller", "a"), (0, 7), (7, 7), 0)
        self.check(DEAR, ("seller", "c"), (1, 9, 0), (1, 9, 4), 0 - 7)
        self.check(DEAR, ("seller", "c"), (1, 3, 0), (1, 3, 4), -7)
        # If the seat of the seller gets the thing, it counts 0, for bids, too.
        self.check(DEAR, ("seller", "a"), (0, 0, 0), (5, 0, 0), 0)
        self.check(DEAR, ("seller", "a"), (0, 9, 9), (9, 9, 9), 0)
        self.check(DEAR, ("seller", "a"), (0, 8, 9), (9, 8, 9), 0)
        self.check(DEAR, ("seller", "a"), (0, 9, 8), (8, 9, 8), 0 - 3)

    def test_shake(self):
        self.check(first(), ("shake", "a", 1), (4, 0), (5, 0), 5)
        self.check(first(), ("shake", "a", 1), (5, 0), (4, 0), -5)
        self.check(first(), ("shake", "a", 5), (9, 0), (14, 0), 5)
        self.check(first(), ("shake", "a", 0), (9, 0), (9, 0), 0)
        self.check(first(), ("shake", "b", 10 ** 12), (0, 1), (0, 10 ** 12 + 1), 10 ** 12 + 1)
        self.check(DEAR, ("shake", "a", 9), (0, 9, 9), (9, 9, 9), 0)

    def test_charge(self):
        for bids, worth in (((2, 0, 0), 5), ((7, 0, 0), 0), ((9, 0, 0), 0), ((0, 4, 1), 0), ((0, 5, 1), 2)):
            self.check(DEAR, ("charge",), bids, bids, worth)

    def test_envy(self):
        for bids, worth in (((2, 9, 0), 2), ((2, 7, 0), 0), ((2, 3, 0), 0), ((0, 4, 1), 0), ((9, 8, 1), 6)):
            self.check(DEAR, ("envy",), bids, bids, worth)
        self.check(Rule.read("seats a\nsell a at 0"), ("envy",), (9,), (9,), 0)

    def test_waste(self):
        for bids, worth in (((2, 9, 0), 7), ((9, 2, 0), 0), ((3, 4, 1), 4), ((3, 4, 6), 6), ((9, 8, 1), 1)):
            self.check(DEAR, ("waste",), bids, bids, worth)
        self.check(Rule.read("seats a\nkeep"), ("waste",), (9,), (9,), 9)

    def test_greater_bids_than_any_written_integer(self):
        huge = 10 ** 39
        self.check(first(), ("lie", "a"), (huge, 5), (5, 5), huge - 5)
        self.check(Rule.read(LOW), ("ring", ("a", "b")), (huge, huge), (huge, 0), huge)
        self.check(first(), ("waste",), (huge, huge + 1), (huge, huge + 1), 0)

    def test_all_cases_with_small_bids_by_the_second_reckoning(self):
        dice = random.Random(11)
        for turn in range(60):
            many = 1 + turn % 4
            text = small_text(dice, many, [0, 1, 2])
            rule = Rule.read(text)
            outcomes = table(text, range((6, 4, 3, 2)[many - 1]))
            for question in dice.sample(every_question(rule.seats, [0, 1, 2]), 6):
                for case, worth in cases(outcomes, rule.seats, question):
                    self.assertEqual(amount(rule, question, case), worth, (text, question, case))


class NoQuestions(unittest.TestCase):
    def refuses(self, question, rule=None):
        rule = second() if rule is None else rule
        case = ((0,) * len(rule.seats),) * 2
        self.assertIs(caught(InvalidQuestion, amount, rule, question, case).given, question)

    def test_other_values(self):
        for value in odd_values() + ["lie", "charge", ["charge"], (), (("charge",),), {"charge"}]:
            self.refuses(value)

    def test_other_kinds(self):
        for kind in odd_values() + ["Lie", "lie ", "lies", "rings", "name", "most", "charge\n", ("lie",), Agrees()]:
            for rest in ((), ("a",), (("a",),), ("a", "b"), ("a", 1)):
                self.refuses((kind, *rest))

    def test_too_few_and_too_many(self):
        right = [
            ("lie", "a"), ("ring", ("a", "b")), ("names", "a", "b"), ("seller", "a"), ("shake", "a", 3), ("charge",),
            ("envy",), ("waste",),
        ]
        for question in right:
            self.assertEqual(amount(second(), question, ((0, 0, 0), (0, 0, 0))) >= 0, True)
            self.refuses(question[:-1])
            for more in (None, "a", 1, ()):
                self.refuses(question + (more,))
            self.refuses(list(question))

    def test_what_is_no_seat(self):
        for value in odd_values() + ["d", "ask", "a ", ("a",), Agrees(), Refuses()]:
            self.refuses(("lie", value))
            self.refuses(("seller", value))
            self.refuses(("names", value, "b"))
            self.refuses(("names", "b", value))
            self.refuses(("shake", value, 1))
            self.refuses(("ring", (value,)))
            self.refuses(("ring", ("a", value)))
        self.refuses(("names", "b", "b"))

    def test_rings(self):
        four = Rule.read("seats a b c d\nkeep")
        for ring in (
            (), ("b", "a"), ("a", "a"), ("a", "b", "b"), ("a", "c", "b"), ("a", "b", "c", "d"), ["a", "b"], "a", "ab",
            {"a": 1}, {"a"}, ("a", "e"), (("a",),), None, ("a", "b", "a"),
        ):
            self.refuses(("ring", ring), four)
        for ring in (("a",), ("d",), ("a", "d"), ("a", "b", "c"), ("b", "c", "d"), ("a", "c", "d")):
            self.assertEqual(amount(four, ("ring", ring), ((1, 2, 3, 4), (1, 2, 3, 4))), 0)
        two = Rule.read("seats b a\nkeep")
        self.refuses(("ring", ("a", "b")), two)
        self.assertEqual(amount(two, ("ring", ("b", "a")), ((1, 2), (3, 4))), 0)

    def test_steps(self):
        for step in [value for value in odd_values() if value.__class__ is not int] + [10 ** 39, -(10 ** 39)]:
            self.refuses(("shake", "a", step))
        for step in (-1, 10 ** 12 + 1, "1", (1,), True, False):
            self.refuses(("shake", "a", step))
        for step in (0, 1, 10 ** 12):
            self.assertEqual(amount(second(), ("shake", "a", step), ((0, 0, 0), (0, 0, 0))), 0)


class NoCases(unittest.TestCase):
    def refuses(self, question, case):
        self.assertIs(caught(InvalidCase, amount, second(), question, case).given, case)

    def test_other_values(self):
        bids = (1, 2, 3)
        for question in every_question("abc", [0, 1]):
            for value in odd_values():
                self.refuses(question, value)
            zeros = (0, 0, 0)
            for case in ((), (zeros,), (zeros, zeros, zeros), [zeros, zeros], (list(zeros), zeros), zeros, "00"):
                self.refuses(question, case)
        for value in odd_values() + [bids[:2], bids + (4,), (1, 2, -3), (1, True, 3), (1, "2", 3), list(bids)]:
            self.refuses(("charge",), (bids, value))
            self.refuses(("charge",), (value, bids))
            self.refuses(("charge",), (value, value))
            self.refuses(("ring", ("a", "b", "c")), (bids, value))
            self.refuses(("ring", ("a", "b", "c")), (value, bids))
        for value in [value for value in odd_values() if not isinstance(value, int) or isinstance(value, bool)]:
            self.refuses(("lie", "b"), (bids, (1, value, 3)))
            self.refuses(("lie", "b"), ((1, value, 3), bids))

    def test_a_bid_that_does_not_move(self):
        self.refuses(("lie", "a"), ((1, 2, 3), (9, 2, 4)))
        self.refuses(("lie", "c"), ((1, 2, 3), (2, 2, 9)))
        self.refuses(("ring", ("a", "b")), ((1, 2, 3), (9, 9, 4)))
        self.refuses(("ring", ("a", "c")), ((1, 2, 3), (9, 1, 9)))
        self.refuses(("names", "a", "b"), ((1, 0, 3), (9, 9, 2)))
        self.refuses(("seller", "b"), ((1, 0, 3), (0, 9, 3)))
        self.refuses(("shake", "b", 5), ((1, 2, 3), (1, 2, 4)))
        for kind in ("charge", "envy", "waste"):
            self.refuses((kind,), ((1, 2, 3), (1, 2, 4)))
            self.refuses((kind,), ((1, 2, 3), (0, 2, 3)))

    def test_a_bid_that_is_not_0(self):
        self.refuses(("names", "a", "b"), ((5, 1, 3), (9, 9, 3)))
        self.refuses(("names", "b", "a"), ((1, 0, 3), (1, 0, 3)))
        self.refuses(("seller", "c"), ((5, 1, 1), (5, 1, 0)))
        self.assertEqual(amount(second(), ("seller", "c"), ((5, 1, 0), (5, 1, 1))), 0)

    def test_a_step_that_is_too_great(self):
        self.refuses(("shake", "b", 5), ((1, 2, 3), (1, 8, 3)))
        self.refuses(("shake", "b", 5), ((1, 8, 3), (1, 2, 3)))
        self.refuses(("shake", "b", 0), ((1, 8, 3), (1, 9, 3)))
        self.refuses(("shake", "b", 10 ** 12), ((1, 0, 3), (1, 10 ** 12 + 1, 3)))
        for bid in (2, 12):
            self.assertEqual(amount(second(), ("shake", "b", 5), ((1, 7, 3), (1, bid, 3))), 0)


if __name__ == "__main__":
    unittest.main()
