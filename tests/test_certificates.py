"""Claims with certificates: the right one of both claims, papers that are accepted, and wrong arguments."""

import copy
import random
import unittest

from salebids.asking import amount, greatest
from salebids.certificates import certify_lead, certify_most, certify_same
from salebids.checker import accepts
from salebids.compare import lead, same
from salebids.errors import InvalidNumber, InvalidQuestion, NotARule, OtherSeats
from salebids.rules import Rule
from tests.papers import ALONE, all_cases, second_check
from tests.reckoning import every_question, income, movers, small_text
from tests.samples import FIRST_TEXT, caught, first, odd_values, second
from tests.test_books import LOW, low, wrong_questions

MANY = 10 ** 39
STEPS = (0, 1, 3, 10 ** 12)
TEXTS = (
    FIRST_TEXT, LOW, "seats a\nsell a at 3", "seats a\nif a < 7: keep\nsell 1 at a", "seats a b\nkeep",
    "seats a b c\nask = high 2 a b c 10\nif b < 10: sell a at 10\nsell 1 at ask",
    "seats a b c\ntop = high 1 a b c\nnext = high 2 a b c\nif top <= 4: sell 3 at next\nsell 1 at 4",
    "seats a b c d\nask = high 2 a b c d\nsell 1 at ask", "seats a b c d\nif d < 3: keep\nsell 2 at 1000000000000",
)


def limits_near(top):
    """Limits at, above and below a greatest value, below 0, and far away."""
    near = [] if top is None else [top - 1, top, top + 1]
    return near + [-MANY, -1, 0, 1, 7, MANY, MANY ** 3]


class Most(unittest.TestCase):
    def check(self, rule, question, top, limit):
        """Looks at the papers for one limit; returns the tree, if there is one."""
        claim, certificate = certify_most(rule, question, limit)
        kind = "most" if top is not None and top <= limit else "more"
        self.assertEqual(claim, (kind, str(rule), question, limit))
        self.assertIs(accepts(claim, certificate), True)
        if kind == "more":
            self.assertGreater(amount(rule, question, certificate), limit)
            return None
        self.assertIs(accepts(("more", *claim[1:]), certificate), False)
        return certificate

    def test_every_question_at_all_limits(self):
        kinds = {}
        for text in TEXTS:
            rule = Rule.read(text)
            for question in every_question(rule.seats, STEPS):
                top = greatest(rule, question)
                for limit in limits_near(top) if len(rule.seats) < 4 else [-1, 0, MANY if top is None else top]:
                    tree = self.check(rule, question, top, limit)
                    kinds.setdefault(question[0], set()).add(tree is None)
                    if tree is not None and limit == top:
                        self.assertIs(accepts(("most", text, question, top - 1), tree), False)
        # Both claims came up for all questions.
        self.assertEqual([len(found) for found in kinds.values()], [2] * 8)

    def test_rules_by_chance(self):
        dice = random.Random(8)
        for _ in range(150):
            rule = Rule.read(small_text(dice, dice.randint(1, 3), (0, 1, 2, 5, 10 ** 12)))
            question = dice.choice(every_question(rule.seats, STEPS))
            top = greatest(rule, question)
            for limit in limits_near(top):
                self.check(rule, question, top, limit)

    def test_trees_as_a_second_checker_reads_them(self):
        dice = random.Random(9)
        read = 0
        while read < 40:
            many = dice.choice((1, 2, 2, 3))
            rule = Rule.read(small_text(dice, many, (0, 1, 2), 3, 3))
            question = dice.choice([q for q in every_question(rule.seats, (0, 1, 2)) if len(movers(q)) + many < 5])
            top = greatest(rule, question)
            if top is not None and top <= 3:
                claim, tree = certify_most(rule, question, top)
                found = all_cases(claim, range({1: 14, 2: 13, 3: 12, 4: 10}[many + len(movers(question))]))
                self.assertTrue(second_check(tree, found))
                # No answer is asked for that is told already: each node () has answers of its own.
                self.assertEqual(tree.count(()), len({answered for numbers, answered, fits in found}))
                read += 1

    def test_kinds_of_marks(self):
        for text in TEXTS[:7]:
            rule = Rule.read(text)
            for question in every_question(rule.seats, (2,)):
                top = greatest(rule, question)
                if top is not None:
                    tree = certify_most(rule, question, top)[1]
                    marks = [mark for node in tree for mark in node[:2]]
                    self.assertTrue(all(mark.__class__ in (int, tuple) for mark in marks))
                    if question[0] in ALONE:
                        self.assertTrue(all(mark.__class__ is int or mark[0] == "bid" for mark in marks))

    def test_errors_in_their_order(self):
        for value in odd_values() + [LOW]:
            if value.__class__ is not Rule:
                self.assertIs(caught(NotARule, certify_most, value, None, None).given, value)
        for value in wrong_questions() + [("lie", "c"), ("ring", ("b", "a"))]:
            self.assertIs(caught(InvalidQuestion, certify_most, low(), value, None).given, value)
        for value in odd_values():
            if value.__class__ is not int:
                self.assertIs(caught(InvalidNumber, certify_most, low(), ("waste",), value).given, value)

    def test_parameters_by_name(self):
        claim = certify_most(limit=3, question=("waste",), rule=first())[0]
        self.assertEqual(claim, ("more", FIRST_TEXT, ("waste",), 3))


class Lead(unittest.TestCase):
    def check(self, one, other, top, limit):
        claim, certificate = certify_lead(one, other, limit)
        kind = "lead" if top is not None and top <= limit else "passes"
        self.assertEqual(claim, (kind, str(one), str(other), limit))
        self.assertIs(accepts(claim, certificate), True)
        if kind == "passes":
            self.assertGreater(income(one.outcome(certificate)) - income(other.outcome(certificate)), limit)
        elif limit == top:
            self.assertIs(accepts((*claim[:3], top - 1), certificate), False)
        return kind

    def test_both_claims_at_all_limits(self):
        dice = random.Random(10)
        pairs = [(low(), first()), (first(), low()), (low(), low())]
        for many in (1, 2, 3, 4):
            for _ in range(25 if many < 4 else 6):
                pairs.append([Rule.read(small_text(dice, many, (0, 1, 4, 10 ** 12), 2, 2)) for _ in range(2)])
        kinds = [self.check(one, other, lead(one, other), limit) for one, other in pairs
                 for limit in limits_near(lead(one, other))]
        self.assertGreater(min(kinds.count("lead"), kinds.count("passes")), 100)

    def test_a_lead_below_0(self):
        one, other = Rule.read("seats a\nsell a at 1"), Rule.read("seats a\nsell a at 4")
        kinds = [self.check(one, other, -3, limit) for limit in (-4, -3, -2, 0)]
        self.assertEqual(kinds, ["passes", "lead", "lead", "lead"])

    def test_errors_in_their_order(self):
        for value in odd_values() + [LOW]:
            if value.__class__ is not Rule:
                self.assertIs(caught(NotARule, certify_lead, value, LOW, None).given, value)
                self.assertIs(caught(NotARule, certify_lead, low(), value, None).given, value)
            if value.__class__ is not int:
                self.assertIs(caught(InvalidNumber, certify_lead, low(), second(), value).given, value)
        other = second()
        self.assertIs(caught(OtherSeats, certify_lead, low(), other, 0).given, other)
        turned = Rule.read("seats b a\nkeep")
        self.assertIs(caught(OtherSeats, certify_lead, low(), turned, 0).given, turned)

    def test_parameters_by_name(self):
        self.assertEqual(certify_lead(limit=4, other=first(), one=low())[0], ("lead", LOW, FIRST_TEXT, 4))


class Same(unittest.TestCase):
    def check(self, one, other):
        claim, certificate = certify_same(one, other)
        kind = "same" if same(one, other) else "parts"
        self.assertEqual(claim, (kind, str(one), str(other)))
        self.assertIs(accepts(claim, certificate), True)
        if kind == "parts":
            self.assertNotEqual(one.outcome(certificate), other.outcome(certificate))
        return kind

    def test_both_claims(self):
        dice = random.Random(12)
        too = Rule.read("seats a b\nx = high 2 b a\nsell 1 at x")
        kinds = [self.check(*pair) for pair in ((low(), too), (too, low()), (low(), low()), (low(), first()))]
        self.assertEqual(kinds, ["same", "same", "same", "parts"])
        for _ in range(150):
            many = dice.randint(1, 3)
            one = Rule.read(small_text(dice, many, (0, 1, 4), 2, 2))
            kinds.append(self.check(one, Rule.read(small_text(dice, many, (0, 1, 4), 1, 1))))
            rows = str(one).split("\n")
            kinds.append(self.check(one, Rule.read("\n".join([rows[0], "zz = high 1 2 a", *rows[1:]]))))
        self.assertGreater(min(kinds.count("same"), kinds.count("parts")), 100)

    def test_errors_in_their_order(self):
        for value in odd_values() + [LOW]:
            if value.__class__ is not Rule:
                self.assertIs(caught(NotARule, certify_same, value, LOW).given, value)
                self.assertIs(caught(NotARule, certify_same, low(), value).given, value)
        other = second()
        self.assertIs(caught(OtherSeats, certify_same, low(), other).given, other)

    def test_parameters_by_name(self):
        self.assertEqual(certify_same(other=first(), one=low())[0], ("parts", LOW, FIRST_TEXT))


class Unchanged(unittest.TestCase):
    def test_what_is_passed_stays_as_it_is(self):
        rules = [low(), first()]
        kept = copy.deepcopy([vars(rule) for rule in rules])
        question = ("ring", ("a", "b"))
        for limit in (-1, 3, MANY):
            certify_most(rules[1], question, limit)
            certify_most(rules[0], ("shake", "a", 3), limit)
            certify_lead(*rules, limit)
            certify_lead(rules[1], rules[0], limit)
        certify_same(*rules)
        certify_same(rules[0], rules[0])
        self.assertEqual([vars(rule) for rule in rules], kept)
        self.assertEqual(question, ("ring", ("a", "b")))

    def test_equal_arguments_give_equal_papers(self):
        for limit in (-1, 0, 3, 4, MANY):
            for question in every_question("ab", STEPS):
                self.assertEqual(certify_most(first(), question, limit), certify_most(first(), question, limit))
            self.assertEqual(certify_lead(low(), first(), limit), certify_lead(low(), first(), limit))
        self.assertEqual(certify_same(low(), first()), certify_same(low(), first()))

    def test_pairs_of_tuples(self):
        for papers in (certify_most(low(), ("waste",), 0), certify_most(low(), ("waste",), -1),
                       certify_lead(low(), first(), 4), certify_lead(low(), first(), 3),
                       certify_same(low(), low()), certify_same(low(), first())):
            self.assertIs(papers.__class__, tuple)
            self.assertEqual([part.__class__ for part in papers], [tuple, tuple])

    def test_each_function_is_defined_in_its_file(self):
        for function in (certify_most, certify_lead, certify_same):
            self.assertEqual(function.__module__, "salebids.certificates")


if __name__ == "__main__":
    unittest.main()
