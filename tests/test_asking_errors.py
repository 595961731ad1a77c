"""Errors of asking, compare and mends, which of them comes first, and that nothing that is passed changes."""

import copy
import inspect
import unittest

from salebids import asking, compare, mends as mending
from salebids.asking import amount, greatest, shown, truthful
from salebids.compare import ahead, lead, parting, same
from salebids.errors import InvalidCase, InvalidChanges, InvalidNumber, InvalidQuestion, NotARule, OtherSeats
from salebids.mends import mends
from salebids.rules import Rule
from tests.samples import FIRST_TEXT, caught, first, odd_values, second

LIE = ("lie", "a")
CASE = ((0, 0), (0, 0))
OTHER = Rule.read("seats b a\nkeep")


def given(kind, action, *passed, **named):
    return caught(kind, action, *passed, **named).given


def no_integers():
    return [value for value in odd_values() if value.__class__ is not int] + ["1", (1,), [1]]


class Errors(unittest.TestCase):
    def test_what_is_no_rule(self):
        for value in [value for value in odd_values() if value.__class__ is not Rule] + [FIRST_TEXT, (first(),)]:
            self.assertIs(given(NotARule, amount, value, LIE, CASE), value)
            self.assertIs(given(NotARule, greatest, value, LIE), value)
            self.assertIs(given(NotARule, greatest, value, LIE, most=3), value)
            self.assertIs(given(NotARule, shown, value, LIE, 0), value)
            self.assertIs(given(NotARule, truthful, value), value)
            self.assertIs(given(NotARule, mends, value, LIE, 0, ()), value)
            for action, rest in ((lead, ()), (ahead, (0,)), (same, ()), (parting, ())):
                self.assertIs(given(NotARule, action, value, first(), *rest), value)
                self.assertIs(given(NotARule, action, first(), value, *rest), value)

    def test_what_is_no_question(self):
        for value in odd_values() + [("lie", "c"), ("lie",), ["charge"], ("ring", ("b", "a")), ("shake", "a", -1)]:
            self.assertIs(given(InvalidQuestion, amount, first(), value, CASE), value)
            self.assertIs(given(InvalidQuestion, greatest, first(), value), value)
            self.assertIs(given(InvalidQuestion, shown, first(), value, 0), value)
            self.assertIs(given(InvalidQuestion, mends, first(), value, 0, ()), value)

    def test_what_is_no_most(self):
        wrong = [value for value in no_integers() if value is not None] + [-1, 10 ** 12 + 1, 10 ** 39, -(10 ** 39)]
        for value in wrong:
            self.assertIs(given(InvalidNumber, greatest, first(), LIE, most=value), value)
            self.assertIs(given(InvalidNumber, shown, first(), LIE, 0, most=value), value)
            self.assertIs(given(InvalidNumber, lead, first(), first(), most=value), value)
            self.assertIs(given(InvalidNumber, ahead, first(), first(), 0, most=value), value)
        for value in (None, 0, 1, 10 ** 12):
            self.assertEqual(lead(first(), first(), most=value), 0)
            self.assertEqual(ahead(first(), first(), 1, most=value), None)
            self.assertEqual(greatest(first(), ("charge",), most=value), 0)
            self.assertEqual(shown(first(), ("charge",), 1, most=value), None)

    def test_what_is_no_least(self):
        for value in no_integers():
            self.assertIs(given(InvalidNumber, shown, first(), LIE, value), value)
            self.assertIs(given(InvalidNumber, ahead, first(), first(), value), value)
        for value in (-(10 ** 39), -1, 0):
            self.assertEqual(shown(first(), ("charge",), value).__class__, tuple)
            self.assertEqual(ahead(first(), first(), value).__class__, tuple)
        self.assertIsNone(shown(first(), ("charge",), 10 ** 39))

    def test_what_is_no_limit(self):
        for value in no_integers() + [-1, -(10 ** 39)]:
            self.assertIs(given(InvalidNumber, mends, first(), LIE, value, ()), value)
        for value in (0, 1, 10 ** 39):
            self.assertEqual(mends(first(), ("charge",), value, ()), ((),))

    def test_other_seats(self):
        texts = ("seats b a\nkeep", "seats a\nkeep", "seats a b c\nkeep", "seats a c\nkeep")
        for other in [Rule.read(text) for text in texts]:
            for action, rest in ((lead, ()), (ahead, (0,)), (same, ()), (parting, ())):
                self.assertIs(given(OtherSeats, action, first(), other, *rest), other)
                self.assertEqual(given(OtherSeats, action, other, first(), *rest), first())


class Order(unittest.TestCase):
    def test_the_parameters_in_their_order(self):
        self.assertEqual(given(NotARule, amount, 1, 2, 3), 1)
        self.assertEqual(given(InvalidQuestion, amount, first(), 2, 3), 2)
        self.assertEqual(given(InvalidCase, amount, first(), LIE, 3), 3)
        self.assertEqual(given(NotARule, greatest, 1, 2, most=-3), 1)
        self.assertEqual(given(InvalidQuestion, greatest, first(), 2, most=-3), 2)
        self.assertEqual(given(NotARule, shown, 1, 2, "3", most=-4), 1)
        self.assertEqual(given(InvalidQuestion, shown, first(), 2, "3", most=-4), 2)
        self.assertEqual(given(InvalidNumber, shown, first(), LIE, "3", most=-4), "3")
        self.assertEqual(given(InvalidNumber, shown, most=-4, least="3", question=LIE, rule=first()), "3")
        self.assertEqual(given(NotARule, mends, 1, 2, -3, 4), 1)
        self.assertEqual(given(InvalidQuestion, mends, first(), 2, -3, 4), 2)
        self.assertEqual(given(InvalidNumber, mends, first(), LIE, -3, 4), -3)
        self.assertEqual(given(InvalidNumber, mends, changes=4, limit=-3, question=LIE, rule=first()), -3)
        self.assertIsNone(caught(InvalidChanges, mends, first(), LIE, 3, 4).index)

    def test_other_seats_last(self):
        for action in (lead, same, parting):
            self.assertEqual(given(NotARule, action, 1, 2), 1)
            self.assertEqual(given(NotARule, action, first(), 2), 2)
        self.assertEqual(given(NotARule, lead, 1, 2, most=-3), 1)
        self.assertEqual(given(NotARule, lead, first(), 2, most=-3), 2)
        self.assertEqual(given(InvalidNumber, lead, first(), OTHER, most=-3), -3)
        self.assertEqual(given(NotARule, ahead, 1, 2, "3", most=-4), 1)
        self.assertEqual(given(NotARule, ahead, first(), 2, "3", most=-4), 2)
        self.assertEqual(given(InvalidNumber, ahead, first(), OTHER, "3", most=-4), "3")
        self.assertEqual(given(InvalidNumber, ahead, first(), OTHER, 3, most=-4), -4)
        self.assertIs(given(OtherSeats, ahead, first(), OTHER, 3, most=4), OTHER)


class Signatures(unittest.TestCase):
    def test_as_they_are_listed(self):
        wanted = {
            amount: "(rule, question, case)", greatest: "(rule, question, *, most=None)",
            shown: "(rule, question, least, *, most=None)", truthful: "(rule)", lead: "(one, other, *, most=None)",
            ahead: "(one, other, least, *, most=None)", same: "(one, other)", parting: "(one, other)",
            mends: "(rule, question, limit, changes)",
        }
        for action, text in wanted.items():
            self.assertEqual(str(inspect.signature(action)), text)

    def test_each_function_is_defined_in_its_file(self):
        for module, names in (
            (asking, ("amount", "greatest", "shown", "truthful")), (compare, ("lead", "ahead", "same", "parting")),
            (mending, ("mends",)),
        ):
            for name in names:
                self.assertEqual(getattr(module, name).__module__, module.__name__)

    def test_most_by_name_alone(self):
        self.assertRaises(TypeError, greatest, first(), LIE, 9)
        self.assertRaises(TypeError, shown, first(), LIE, 1, 9)
        self.assertRaises(TypeError, lead, first(), first(), 9)
        self.assertRaises(TypeError, ahead, first(), first(), 1, 9)


class Unchanged(unittest.TestCase):
    def test_rules_stay_as_they_are(self):
        rule, other = second(), second().changed(("row", 1, "keep"))
        kept = [copy.deepcopy(vars(thing)) for thing in (rule, other)]
        for question in (LIE, ("ring", ("a", "c")), ("names", "b", "c"), ("seller", "b"), ("shake", "c", 4), ("envy",)):
            greatest(rule, question)
            shown(rule, question, 3, most=9)
            amount(rule, question, ((0, 0, 0), (0, 0, 0)))
            mends(rule, question, 3, (("line", "ask", "low 1 a"), ("row", 1, "keep")))
        truthful(rule)
        lead(rule, other)
        ahead(rule, other, 4)
        same(rule, other)
        parting(rule, other)
        self.assertEqual([vars(thing) for thing in (rule, other)], kept)

    def test_wrong_values_stay_as_they_are(self):
        for value in ([["a"], {"b": [1]}], {"a": ["b"]}, (["a"], [["b"]]), ("ring", ["a", "b"]), [("row", 0, "keep")]):
            kept = copy.deepcopy(value)
            for action, passed in (
                (amount, (first(), LIE, value)), (amount, (first(), value, value)), (greatest, (first(), value)),
                (shown, (first(), LIE, value)), (truthful, (value,)), (lead, (first(), value)), (same, (value, first())),
                (ahead, (first(), first(), value)), (mends, (first(), LIE, 0, value)), (mends, (first(), LIE, value, ())),
            ):
                self.assertRaises(ValueError, action, *passed)
            self.assertRaises(ValueError, greatest, first(), LIE, most=value)
            self.assertEqual(value, kept)


if __name__ == "__main__":
    unittest.main()
