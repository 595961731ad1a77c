"""rule[name], len(rule), rule.value and rule.outcome."""

import itertools
import random
import unittest

from salebids.errors import InvalidBids, UnknownName
from salebids.rules import Rule
from tests import samples
from tests.samples import any_text, caught, odd_values

GREATEST = 10 ** 40 - 1


def value_of(term, *bids):
    return Rule(("a", "b", "c")[:len(bids)], (("x", term),), ("keep",)).value("x", bids)


class Item(unittest.TestCase):
    def test_the_term_of_a_line(self):
        rule = Rule(("a",), (("x", "low 1 a"), ("y", "high 1 x 5")), ("keep",))
        self.assertEqual([rule["x"], rule["y"]], ["low 1 a", "high 1 x 5"])

    def test_what_is_no_name_of_a_line(self):
        rule = Rule(("a",), (("x", "low 1 a"), ("y", "high 1 x 5")), ("keep",))
        for value in odd_values() + ["a", "z", "X", "x ", "low 1 a", ("x",), ("x", "low 1 a"), ["x"], b"x"]:
            self.assertIs(caught(UnknownName, rule.__getitem__, value).given, value)
            with self.assertRaises(UnknownName) as raised:
                rule[value]
            self.assertIs(raised.exception.given, value)

    def test_len_is_the_number_of_rows(self):
        for many in range(1, 7):
            rows = ("if a < 5: keep",) * (many - 1) + ("keep",)
            self.assertEqual(len(Rule(("a",), (("x", "low 1 a"),), rows)), many)


class Value(unittest.TestCase):
    def test_seats_and_lines(self):
        rule = samples.second()
        self.assertEqual([rule.value(name, (7, 30, 12)) for name in ("a", "b", "c", "ask")], [7, 30, 12, 12])
        self.assertEqual(rule.value(bids=(7, 30, 12), name="ask"), 12)

    def test_k_at_both_ends(self):
        self.assertEqual(value_of("high 1 a b c", 4, 9, 6), 9)
        self.assertEqual(value_of("high 2 a b c", 4, 9, 6), 6)
        self.assertEqual(value_of("high 3 a b c", 4, 9, 6), 4)
        self.assertEqual(value_of("low 1 a b c", 4, 9, 6), 4)
        self.assertEqual(value_of("low 2 a b c", 4, 9, 6), 6)
        self.assertEqual(value_of("low 3 a b c", 4, 9, 6), 9)
        self.assertEqual(value_of("high 6 a b c 3 7 5", 4, 9, 6), 3)
        self.assertEqual(value_of("low 6 a b c 3 7 5", 4, 9, 6), 9)
        self.assertEqual([value_of("high 1 a", 4), value_of("low 1 a", 4)], [4, 4])

    def test_each_part_counts_as_often_as_it_stands_there(self):
        self.assertEqual([value_of(f"high {place} b a b 5 5 b", 4, 9) for place in range(1, 7)], [9, 9, 9, 5, 5, 4])
        self.assertEqual([value_of(f"low {place} b a b 5 5 b", 4, 9) for place in range(1, 7)], [4, 5, 5, 9, 9, 9])
        self.assertEqual([value_of(f"low {place} a b 6", 6, 6) for place in range(1, 4)], [6, 6, 6])
        self.assertEqual([value_of(f"high {place} a a b", 2, 2) for place in range(1, 4)], [2, 2, 2])

    def test_integers_at_both_ends(self):
        self.assertEqual(value_of("low 1 0 a", 5), 0)
        self.assertEqual(value_of("high 1 1000000000000 a", 10 ** 12 - 1), 10 ** 12)
        self.assertEqual(value_of("high 1 1000000000000 a", 10 ** 12 + 1), 10 ** 12 + 1)
        self.assertEqual(value_of("high 1 0", 5), 0)

    def test_long_bids(self):
        self.assertEqual(value_of("high 1 a b", GREATEST, GREATEST - 1), GREATEST)
        self.assertEqual(value_of("low 1 a b", GREATEST, GREATEST - 1), GREATEST - 1)

    def test_lines_above(self):
        rule = Rule(("a", "b"), (("x", "high 1 a b"), ("y", "low 1 x 10"), ("z", "high 2 x y y")), ("keep",))
        self.assertEqual([rule.value(name, (3, 20)) for name in "xyz"], [20, 10, 10])

    def test_unknown_names(self):
        rule = samples.second()
        for value in odd_values() + ["d", "asks", "10", "high 2 a b c 10", ("a",), ["a"], b"a", "a "]:
            self.assertIs(caught(UnknownName, rule.value, value, (7, 30, 12)).given, value)
            self.assertIs(caught(UnknownName, rule.value, value, None).given, value)


class Bids(unittest.TestCase):
    def check(self, bids, index):
        rule = samples.second()
        self.assertEqual(caught(InvalidBids, rule.outcome, bids).index, index)
        self.assertEqual(caught(InvalidBids, rule.outcome, bids=bids).index, index)
        self.assertEqual(caught(InvalidBids, rule.value, "a", bids).index, index)
        self.assertEqual(caught(InvalidBids, rule.value, "ask", bids).index, index)

    def test_no_tuple_or_not_one_for_each_seat(self):
        for value in odd_values() + [[1, 2, 3], {1: 1, 2: 2, 3: 3}, range(3), "abc", b"abc"]:
            self.check(value, None)
        for bids in ((), (1,), (1, 2), (1, 2, 3, 4), (-1, 2), (True, 2, 3, 4), ("a",)):
            self.check(bids, None)

    def test_the_first_that_is_no_integer_from_0_on(self):
        rights = [0, 1, 10 ** 39]
        for value in odd_values():
            if value.__class__ is int and value >= 0:
                continue
            self.check((value, 0, 0), 0)
            self.check((0, value, value), 1)
            self.check((0, 0, value), 2)
        self.check((-1, True, "a"), 0)
        self.check((0, True, "a"), 1)
        self.check((0, False, 0), 1)
        self.check((0, 0, -1), 2)
        self.check((0, 0, -GREATEST), 2)
        for bids in itertools.product(rights, repeat=3):
            self.assertEqual(samples.second().value("c", bids), bids[2])


class Outcome(unittest.TestCase):
    def test_the_examples_of_the_interface(self):
        self.assertEqual(samples.second().outcome((7, 30, 12)), ("b", 12))
        self.assertEqual(samples.second().outcome((7, 3, 90)), ("a", 10))
        self.assertEqual(samples.second().outcome(bids=(7, 3, 90)), ("a", 10))
        self.assertEqual(samples.first().outcome((8, 8)), ("a", 8))
        self.assertIsNone(samples.first().outcome((4, 2)))

    def standing(self, seats, bids):
        rules = [Rule(seats, (), (f"sell {place} at 3",)) for place in range(1, len(seats) + 1)]
        return [rule.outcome(bids) for rule in rules]

    def test_the_standing_with_equal_bids(self):
        seats = ("d", "a", "c", "b")
        for bids, names in (
            ((1, 2, 3, 4), "bcad"), ((4, 3, 2, 1), "dacb"), ((5, 5, 5, 5), "dacb"), ((0, 0, 0, 0), "dacb"),
            ((1, 5, 1, 5), "abdc"), ((5, 1, 5, 1), "dcab"), ((2, 7, 7, 2), "acdb"), ((0, 0, 9, 0), "cdab"),
            ((GREATEST, GREATEST - 1, GREATEST, GREATEST - 1), "dcab"),
        ):
            self.assertEqual(self.standing(seats, bids), [(name, 3) for name in names])

    def test_a_seat_gets_it_whatever_it_bids(self):
        rule = Rule(("a", "b"), (), ("sell b at a",))
        self.assertEqual([rule.outcome((9, 0)), rule.outcome((0, 9))], [("b", 9), ("b", 0)])

    def test_conditions_at_their_edges(self):
        less = Rule(("a", "b"), (), ("if a < b: sell a at 1", "sell b at 2"))
        most = Rule(("a", "b"), (), ("if a <= b: sell a at 1", "sell b at 2"))
        for bids, one, other in (
            ((4, 5), ("a", 1), ("a", 1)), ((5, 5), ("b", 2), ("a", 1)), ((6, 5), ("b", 2), ("b", 2)),
            ((GREATEST, GREATEST), ("b", 2), ("a", 1)), ((GREATEST - 1, GREATEST), ("a", 1), ("a", 1)),
        ):
            self.assertEqual((less.outcome(bids), most.outcome(bids)), (one, other))

    def test_conditions_with_integers(self):
        rule = Rule(("a",), (), ("if a < 1: keep", "if 1000000000000 < a: sell 1 at 1000000000000", "sell 1 at 0"))
        self.assertIsNone(rule.outcome((0,)))
        self.assertEqual(rule.outcome((1,)), ("a", 0))
        self.assertEqual(rule.outcome((10 ** 12,)), ("a", 0))
        self.assertEqual(rule.outcome((10 ** 12 + 1,)), ("a", 10 ** 12))
        self.assertEqual(Rule(("a",), (), ("if 9 < 10: keep", "sell 1 at 0")).outcome((5,)), None)
        self.assertEqual(Rule(("a",), (), ("if 10 < 9: keep", "sell 1 at 0")).outcome((5,)), ("a", 0))

    def test_the_first_row_that_holds_is_done(self):
        early = tuple(f"if a <= {number}: sell a at {number}" for number in (1, 2, 3, 4, 5))
        rule = Rule(("a",), (), early + ("keep",))
        self.assertEqual([rule.outcome((bid,)) for bid in range(7)],
                         [("a", 1), ("a", 1), ("a", 2), ("a", 3), ("a", 4), ("a", 5), None])

    def test_a_price_may_be_beyond_the_bid(self):
        self.assertEqual(Rule(("a",), (), ("sell a at 1000000000000",)).outcome((0,)), ("a", 10 ** 12))

    def test_kinds_of_results(self):
        outcome = samples.second().outcome((7, 30, 12))
        self.assertIs(outcome.__class__, tuple)
        self.assertEqual([part.__class__ for part in outcome], [str, int])


class ByChance(unittest.TestCase):
    def test_values_and_outcomes_as_a_second_reading_tells_them(self):
        dice = random.Random(7)
        numbers = [0, 1, 2, 3, 4, 5, 6, 9, 10, 11, 10 ** 12, 10 ** 12 + 1, GREATEST]
        for _ in range(400):
            text = any_text(dice)
            rule = Rule.read(text)
            for _ in range(8):
                bids = tuple(dice.choice(numbers) for seat in rule.seats)
                self.assertEqual(rule.outcome(bids), samples.outcome(text, bids), (text, bids))
                for name, worth in samples.worths(text, bids).items():
                    self.assertEqual(rule.value(name, bids), worth, (text, bids))


if __name__ == "__main__":
    unittest.main()
