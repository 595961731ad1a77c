"""The six claims, what is a certificate for each, and values of any kind in the place of both."""

import copy
import unittest

from salebids.certificates import certify_lead, certify_most, certify_same
from salebids.checker import accepts
from tests.samples import FIRST_TEXT, SECOND_TEXT, Agrees, Refuses, first, odd_values
from tests.test_books import LOW, low, wrong_questions

TOO = "seats a b\nx = high 2 b a\nsell 1 at x"
LIE = ("lie", "a")
MANY = 10 ** 39


def fitting():
    """A claim of each kind with a certificate for it, as pairs."""
    return [
        (("most", LOW, LIE, 0), certify_most(low(), LIE, 0)[1]),
        (("more", FIRST_TEXT, LIE, 3), ((9, 5), (5, 5))),
        (("lead", LOW, FIRST_TEXT, 4), certify_lead(low(), first(), 4)[1]),
        (("passes", FIRST_TEXT, LOW, 8), (9, 0)),
        (("same", LOW, TOO), certify_same(low(), low().read(TOO))[1]),
        (("parts", LOW, FIRST_TEXT), (4, 4)),
    ]


def put_in(value, at, new):
    """A tuple with another element at an index."""
    return value[:at] + (new,) + value[at + 1:]


class Claims(unittest.TestCase):
    def test_the_examples_of_the_interface(self):
        claim, certificate = certify_most(low(), LIE, 0)
        self.assertEqual(
            [claim[0], accepts(claim, certificate), accepts(claim, ((),)), certify_most(first(), ("waste",), 3)[0][0],
             certify_lead(low(), first(), 4)[0][0]],
            ["most", True, False, "more", "lead"])
        self.assertIs(accepts(("more", FIRST_TEXT, ("waste",), 3), ((4, 1), (4, 1))), True)

    def test_each_claim_with_its_certificate(self):
        for claim, certificate in fitting():
            self.assertIs(accepts(claim, certificate), True)
            self.assertIs(accepts(claim=claim, certificate=certificate), True)

    def test_each_claim_with_the_certificates_of_the_others(self):
        pairs = fitting()
        trees = ("lead", "same")
        bids = ("passes", "parts")
        for claim, own in pairs:
            for other, certificate in pairs:
                if claim[0] == other[0] or (claim[0] in bids and other[0] in bids):
                    continue
                if claim[0] in trees and other[0] in trees:
                    continue
                self.assertIs(accepts(claim, certificate), False, (claim, other))

    def test_claims_of_the_opposite(self):
        opposite = {"most": "more", "lead": "passes", "same": "parts"}
        opposite.update({other: kind for kind, other in opposite.items()})
        for claim, certificate in fitting():
            self.assertIs(accepts(put_in(claim, 0, opposite[claim[0]]), certificate), False)

    def test_values_of_any_kind(self):
        pairs = fitting()
        for value in odd_values() + [(), ((),), "most", ("most",), ((), ()), ((0, 0), (0, 0)), LOW, (LOW, LOW)]:
            self.assertIs(accepts(value, value), False)
            for claim, certificate in pairs:
                self.assertIs(accepts(value, certificate), False)
                self.assertIs(accepts(claim, value), False, (claim, value))

    def test_claims_with_an_element_of_any_kind(self):
        for claim, certificate in fitting():
            for at in range(len(claim)):
                for value in odd_values() + [(), "most ", (claim[at],), [claim[at]]]:
                    if at == 3 and value.__class__ is int:
                        continue
                    self.assertIs(accepts(put_in(claim, at, value), certificate), False)

    def test_claims_of_other_lengths_and_kinds(self):
        for claim, certificate in fitting():
            values = (list(claim), claim[:-1], claim + (0,), claim[1:], (claim,), claim + claim, dict(enumerate(claim)))
            for value in values:
                self.assertIs(accepts(value, certificate), False)
        tree = certify_same(low(), low())[1]
        self.assertIs(accepts(("same", LOW, LOW), tree), True)
        self.assertIs(accepts(("same", LOW, LOW, 0), tree), False)
        self.assertIs(accepts(("lead", LOW, LOW), tree), False)
        for kind in ("Most", "less", "", "tree", "mosts", b"most", None, Agrees(), Refuses()):
            self.assertIs(accepts((kind, LOW, LIE, 0), fitting()[0][1]), False)

    def test_texts_that_are_none(self):
        texts = (
            LOW + "\n", " " + LOW, LOW.replace("next = ", "next  = "), "", "keep", low(), LOW.split("\n"), LOW.encode(),
        )
        for claim, certificate in fitting():
            for text in texts:
                self.assertIs(accepts(put_in(claim, 1, text), certificate), False)
                if claim[0] not in ("most", "more"):
                    self.assertIs(accepts(put_in(claim, 2, text), certificate), False)

    def test_questions_that_are_none(self):
        claim, certificate = fitting()[0]
        for question in wrong_questions() + [("lie", "c"), ("lie", "next"), ("ring", ("b", "a")), ("names", "a", "c")]:
            self.assertIs(accepts(put_in(claim, 2, question), certificate), False)
            self.assertIs(accepts(("more", LOW, question, -1), ((0, 0), (0, 0))), False)

    def test_limits_are_integers(self):
        for claim, certificate in fitting():
            if len(claim) == 4:
                for limit in (True, False, None, "4", (4,), [4], b"4", Agrees()):
                    self.assertIs(accepts(put_in(claim, 3, limit), certificate), False)

    def test_limits_of_any_size(self):
        pairs = {claim[0]: (claim, certificate) for claim, certificate in fitting()}
        for kind, limits in (("most", (0, 1, MANY)), ("lead", (4, 5, MANY)), ("more", (3, 0, -1, -MANY)),
                             ("passes", (8, 0, -1, -MANY))):
            claim, certificate = pairs[kind]
            for limit in limits:
                self.assertIs(accepts(put_in(claim, 3, limit), certificate), True)
        for kind, limits in (("most", (-1, -MANY)), ("lead", (3, 0, -1, -MANY)), ("more", (4, 5, MANY)),
                             ("passes", (9, 10, MANY))):
            claim, certificate = pairs[kind]
            for limit in limits:
                self.assertIs(accepts(put_in(claim, 3, limit), certificate), False)

    def test_other_seats(self):
        turned = "seats b a\nnext = low 1 a b\nsell 1 at next"
        for kind, rest in (("lead", (MANY,)), ("passes", (-MANY,)), ("same", ()), ("parts", ())):
            for certificate in ((0, 0), (9, 0), (0, 9), (0, 0, 0), ((),), certify_same(low(), low())[1]):
                for other in (turned, SECOND_TEXT):
                    self.assertIs(accepts((kind, LOW, other, *rest), certificate), False)
                    self.assertIs(accepts((kind, other, LOW, *rest), certificate), False)

    def test_what_is_passed_stays_as_it_is(self):
        values = [list(pair) for pair in fitting()] + [["most", [LOW], {"a": [1]}], [[("bid", "a")], {}]]
        kept = copy.deepcopy(values)
        for claim in values:
            for certificate in values:
                accepts(claim, certificate)
                accepts(claim[0], certificate[1])
        self.assertEqual(values, kept)

    def test_it_is_defined_in_its_file(self):
        self.assertEqual(accepts.__module__, "salebids.checker")


class More(unittest.TestCase):
    def test_a_case_of_each_question(self):
        texts = {
            ("lie", "a"): (FIRST_TEXT, ((9, 5), (5, 5)), 4), ("ring", ("a", "b")): (LOW, ((9, 8), (9, 0)), 8),
            ("names", "a", "b"): (FIRST_TEXT, ((9, 0), (5, 0)), 4), ("seller", "b"): (LOW, ((9, 0), (9, 9)), 9),
            ("shake", "b", 3): (LOW, ((9, 4), (9, 7)), 3), ("charge",): (SECOND_TEXT, ((4, 0, 0), (4, 0, 0)), 6),
            ("envy",): (SECOND_TEXT, ((4, 0, 13), (4, 0, 13)), 3), ("waste",): (FIRST_TEXT, ((4, 1), (4, 1)), 4),
        }
        for question, (text, case, worth) in texts.items():
            self.assertIs(accepts(("more", text, question, worth - 1), case), True, question)
            self.assertIs(accepts(("more", text, question, worth), case), False, question)

    def test_what_is_no_case(self):
        claim = ("more", FIRST_TEXT, LIE, -1)
        good = ((9, 5), (5, 5))
        self.assertIs(accepts(claim, good), True)
        wrong = [
            (), (good,), [(9, 5), (5, 5)], ([9, 5], (5, 5)), ((9, 5), [5, 5]), ((9, 5),), good + ((5, 5),), ((9,), (5,)),
            ((9, 5), (5, 6)), ((9, 5, 0), (5, 5, 0)), ((True, 5), (5, 5)), ((9, 5), (False, 5)), ((9, 5), (-1, 5)),
            ((9, "5"), (5, "5")), (9, 5), ((9, None), (5, None)), ((9, 5), (5, Agrees())), ((Refuses(), 5), (5, 5)),
        ]
        for value in wrong:
            self.assertIs(accepts(claim, value), False, value)

    def test_what_the_question_asks_of_its_cases(self):
        for question, case in (
            (("names", "a", "b"), ((9, 1), (5, 1))), (("seller", "b"), ((9, 1), (9, 9))),
            (("shake", "b", 2), ((9, 4), (9, 7))), (("shake", "b", 2), ((9, 7), (9, 4))),
            (("shake", "b", 0), ((9, 7), (9, 6))), (("charge",), ((9, 1), (9, 2))), (("waste",), ((9, 1), (8, 1))),
            (("envy",), ((9, 1), (8, 1))), (("ring", ("a",)), ((9, 1), (8, 2))),
        ):
            self.assertIs(accepts(("more", FIRST_TEXT, question, -MANY), case), False, question)


class Bids(unittest.TestCase):
    def test_just_met_and_just_missed(self):
        self.assertIs(accepts(("passes", LOW, FIRST_TEXT, 3), (4, 4)), True)
        self.assertIs(accepts(("passes", LOW, FIRST_TEXT, 4), (4, 4)), False)
        self.assertIs(accepts(("passes", LOW, FIRST_TEXT, -6), (9, 4)), True)
        self.assertIs(accepts(("passes", LOW, FIRST_TEXT, -5), (9, 4)), False)

    def test_unlike_outcomes(self):
        for bids, parted in (((9, 8), True), ((9, 9), False), ((4, 4), True), ((0, 0), True)):
            self.assertIs(accepts(("parts", LOW, FIRST_TEXT), bids), parted)
        # The same price, and another seat; nothing sold, and sold for 0.
        self.assertIs(accepts(("parts", "seats a b\nsell a at 3", "seats a b\nsell b at 3"), (1, 1)), True)
        self.assertIs(accepts(("parts", "seats a b\nsell a at 0", "seats a b\nkeep"), (1, 1)), True)
        self.assertIs(accepts(("passes", "seats a b\nsell a at 0", "seats a b\nkeep", -1), (1, 1)), True)
        self.assertIs(accepts(("passes", "seats a b\nsell a at 0", "seats a b\nkeep", 0), (1, 1)), False)

    def test_what_is_no_bids(self):
        wrong = (
            (9,), (9, 0, 0), [9, 0], (9, -1), (True, 0), (9, "0"), ((9, 0),), ((9, 0), (9, 0)), (), None, (9, Refuses()),
        )
        for claim in (("passes", FIRST_TEXT, LOW, -MANY), ("parts", FIRST_TEXT, LOW)):
            self.assertIs(accepts(claim, (9, 0)), True)
            for value in wrong:
                self.assertIs(accepts(claim, value), False, value)


if __name__ == "__main__":
    unittest.main()
