"""What points [3] to [5] say of all calls, as far as rules reach."""

import copy
import unittest

from salebids.errors import InvalidBids, InvalidChange, InvalidRows, InvalidText, UnknownName
from salebids.rules import Rule
from tests.samples import FIRST_TEXT, SECOND_TEXT, Refuses, caught, first, odd_values, second


class Equality(unittest.TestCase):
    def test_two_rules_are_equal_if_their_texts_are(self):
        self.assertTrue(first() == Rule.read(FIRST_TEXT))
        self.assertFalse(first() != Rule.read(FIRST_TEXT))
        others = (
            SECOND_TEXT, FIRST_TEXT.replace("5", "6"), FIRST_TEXT.replace("a b\n", "b a\n"),
            FIRST_TEXT.replace("top", "tip"), "seats a b\ntop = high 1 b a\nif top < 5: keep\nsell 1 at top",
            FIRST_TEXT.replace("<", "<="), "seats a b c\ntop = high 1 a b\nif top < 5: keep\nsell 1 at top",
        )
        for text in others:
            self.assertFalse(first() == Rule.read(text))
            self.assertTrue(first() != Rule.read(text))

    def test_no_rule_is_equal_to_a_value_of_another_class(self):
        rule = first()
        for value in odd_values() + [FIRST_TEXT, (rule.seats, rule.lines, rule.rows), [rule], (rule,)]:
            if value.__class__ is not Rule:
                self.assertIs(rule == value, False)
                self.assertIs(rule != value, True)
            if value.__class__ not in (Rule, Refuses) and value.__class__.__name__ != "Agrees":
                self.assertIs(value == rule, False)
                self.assertIs(value != rule, True)

    def test_every_rule_is_true(self):
        self.assertIs(bool(Rule(("a",), (), ("keep",))), True)
        self.assertIs(bool(first()), True)


class Unchanged(unittest.TestCase):
    def test_rules_never_change(self):
        rule = second()
        self.calls(rule)
        self.assertEqual((rule.seats, rule.lines, rule.rows), (
            ("a", "b", "c"), (("ask", "high 2 a b c 10"),), ("if b < 10: sell a at 10", "sell 1 at ask")))
        self.assertEqual(str(rule), SECOND_TEXT)
        self.assertEqual(rule, second())
        for name in ("seats", "lines", "rows"):
            self.assertRaises(AttributeError, setattr, rule, name, ())

    def calls(self, rule):
        rule.value("ask", (1, 2, 3))
        rule.outcome((1, 2, 3))
        rule.changed(("line", "ask", "low 1 a"))
        rule.changed(("row", 1, "keep"))
        caught(InvalidBids, rule.outcome, (1, 2, -3))
        caught(UnknownName, rule.value, "no", (1, 2, 3))
        caught(InvalidChange, rule.changed, ("row", 1, "no"))
        caught(InvalidText, Rule.read, "no")

    def test_calls_with_equal_arguments_return_equal_results(self):
        rule = second()
        for bids in ((1, 2, 3), (7, 30, 12), (12, 12, 12)):
            self.assertEqual(rule.outcome(bids), rule.outcome(bids))
            self.assertEqual(rule.outcome(bids), second().outcome(bids))

    def test_what_is_passed_stays_as_it_is(self):
        wrong = ([["a"], {"b": [1]}], {"a": ["b"]}, (["a"], [["b"]]), ("row", ["x"], {"y": 1}))
        for value in wrong:
            kept = copy.deepcopy(value)
            for action in (Rule.read, second().changed, second().outcome):
                self.assertRaises(ValueError, action, value)
            self.assertRaises(ValueError, Rule, value, value, value)
            self.assertRaises(ValueError, Rule, ("a",), value, value)
            self.assertRaises(ValueError, Rule, ("a",), (), value)
            self.assertRaises(LookupError, second().value, value, value)
            self.assertEqual(value, kept)

    def test_lists_do_not_stand_for_tuples(self):
        self.assertIsNone(caught(InvalidBids, first().outcome, [1, 2]).index)
        self.assertIsNone(caught(InvalidRows, Rule, ("a",), (), ["keep"]).index)
        change = ["row", 1, "keep"]
        self.assertIs(caught(InvalidChange, first().changed, change).given, change)


class Interface(unittest.TestCase):
    def test_each_method_is_defined_in_the_class_itself(self):
        names = (
            "__init__", "read", "seats", "lines", "rows", "__getitem__", "__len__", "__str__", "__eq__", "value",
            "outcome", "changed",
        )
        self.assertEqual([name for name in names if name not in vars(Rule)], [])
        self.assertEqual(Rule.__module__, "salebids.rules")


if __name__ == "__main__":
    unittest.main()
