"""greatest, shown and truthful, against every case of a question up to a small number, and against ever greater ones."""

import itertools
import random
import unittest

from salebids.asking import amount, greatest, shown, truthful
from salebids.rules import Rule
from tests.reckoning import best, cases, every_question, movers, reckoned, small_text, table
from tests.samples import first, outcome, second

TOP = 10 ** 12
LOW_TEXT = "seats a b\nnext = low 1 a b\nsell 1 at next"
SECOND_OF_FOUR = "seats a b c d\nnext = high 2 a b c d 10\nif next <= 9: keep\nsell 1 at next"
FULL_TEXT = """seats a b c d
x0 = high 2 a b c d 0 1000000000000
x1 = low 3 a b c d 7 999999999999
x2 = high 3 x0 x1 a 3 3 12
x3 = low 2 x2 d 1000000000000 8 c 1
x4 = high 1 x3 a 4
x5 = low 2 x4 x0 b 5 100
x6 = high 2 x5 c c x1
x7 = low 1 x6 x2 1000000000000
if x7 < 3: keep
if x5 <= a: sell 2 at x6
if d < x4: sell 1 at x1
if x3 <= x7: sell c at x7
if 0 < x2: sell 3 at x5
sell 4 at 1000000000000"""


def low():
    return Rule.read(LOW_TEXT)


class Asking(unittest.TestCase):
    def check_case(self, text, question, case, least, most=None):
        """The case is one of the question, and has what was asked for, by the second reckoning, too."""
        rule = Rule.read(text)
        bids, moved = case
        worth = reckoned(rule.seats, question, bids, moved, outcome(text, bids), outcome(text, moved))
        self.assertEqual(amount(rule, question, case), worth)
        self.assertGreaterEqual(worth, least, (text, question, case))
        self.assertTrue(most is None or max(bids + moved) <= most, (text, question, case))

    def check(self, text, question, wanted, most=None):
        """The greatest amount is the wanted one, and cases are shown up to it and not beyond it."""
        rule = Rule.read(text)
        self.assertEqual(greatest(rule, question, most=most), wanted, (text, question, most))
        tries = (-TOP, -1, 0, 1, TOP, 10 ** 39) if wanted is None else (-10 ** 39, -1, 0, 1, wanted, wanted + 1)
        for least in tries:
            case = shown(rule, question, least, most=most)
            if wanted is not None and least > wanted:
                self.assertIsNone(case, (text, question, least, most))
            else:
                self.check_case(text, question, case, least, most)


class Examples(Asking):
    def test_the_examples(self):
        self.assertEqual([
            truthful(low()), greatest(low(), ("ring", ("a", "b"))), greatest(low(), ("ring", ("a", "b")), most=9),
            greatest(low(), ("names", "a", "b")), greatest(low(), ("shake", "b", 3)),
        ], [True, None, 9, 0, 3])
        self.assertEqual([
            greatest(low(), ("seller", "b"), most=7), greatest(low(), ("seller", "a"), most=7),
            greatest(low(), ("charge",)), greatest(low(), ("envy",)), greatest(low(), ("waste",)),
        ], [7, 6, 0, 0, 0])
        self.assertEqual([
            greatest(first(), ("lie", "a")), greatest(first(), ("lie", "a"), most=9), greatest(first(), ("waste",)),
        ], [None, 4, 4])
        self.assertIsNone(shown(low(), ("lie", "b"), 1))
        self.assertGreaterEqual(amount(first(), ("lie", "a"), shown(first(), ("lie", "a"), 100)), 100)

    def test_truthful_rules(self):
        self.assertIs(truthful(low()), True)
        self.assertIs(truthful(rule=low()), True)
        self.assertIs(truthful(first()), False)
        self.assertIs(truthful(Rule.read(SECOND_OF_FOUR)), True)
        self.assertIs(truthful(Rule.read("seats a\nkeep")), True)
        self.assertIs(truthful(Rule.read("seats a b\nsell b at 7")), True)
        self.assertIs(truthful(Rule.read("seats a b\nif b < 7: keep\nsell b at 7")), True)
        self.assertIs(truthful(Rule.read("seats a b\nif b <= 7: keep\nsell b at 7")), True)
        # The one bid at which it pays off to bid otherwise.
        self.assertIs(truthful(Rule.read("seats a b\nif b <= 8: keep\nsell b at 7")), False)
        self.assertIs(truthful(Rule.read("seats a b\nif b < 6: keep\nsell b at 7")), False)
        # The last seat alone gains.
        self.assertIs(truthful(Rule.read("seats a b c d\nif d < 1: sell a at 0\nsell d at d")), False)

    def test_a_rule_is_truthful_if_no_seat_gains(self):
        dice = random.Random(21)
        told = []
        for _ in range(150):
            rule = Rule.read(small_text(dice, dice.randint(1, 3), [0, 1, 5], 2, 2))
            told.append(truthful(rule))
            self.assertEqual(told[-1], all(greatest(rule, ("lie", seat)) == 0 for seat in rule.seats))
        self.assertGreater(told.count(True), 20)
        self.assertGreater(told.count(False), 20)


class ByHand(Asking):
    def test_one_seat(self):
        text = "seats a\nif a < 3: keep\nsell a at 5"
        for question in (("lie", "a"), ("ring", ("a",))):
            self.check(text, question, 2)
            self.check(text, question, 2, most=3)
            self.check(text, question, 0, most=2)
        self.check(text, ("charge",), 2)
        self.check(text, ("waste",), 2)
        self.check(text, ("envy",), 0)
        self.check(text, ("seller", "a"), 0)
        for step, wanted in ((0, 0), (1, 5), (TOP, 5)):
            self.check(text, ("shake", "a", step), wanted)
        self.check(text, ("shake", "a", 1), 0, most=2)
        self.check("seats a\nkeep", ("waste",), None)
        self.check("seats a\nkeep", ("waste",), TOP, most=TOP)
        self.check("seats a\nkeep", ("waste",), 0, most=0)

    def test_shakes(self):
        text = "seats a b\nsell b at a"
        for step in (0, 1, 17, TOP):
            self.check(text, ("shake", "a", step), step)
            self.check(text, ("shake", "a", step), min(step, 9), most=9)
            self.check(text, ("shake", "b", step), 0)
        # A step brings the price over a written integer, and more.
        text = "seats a\nif a < 10: sell a at 2\nsell a at a"
        for step, wanted in ((0, 0), (1, 8), (2, 9), (5, 12)):
            self.check(text, ("shake", "a", step), wanted)
        self.check(text, ("shake", "a", 5), 8, most=10)
        self.check(text, ("shake", "a", 5), 0, most=9)

    def test_equal_bids(self):
        text = "seats a b\nif a < b: keep\nif b < a: keep\nsell 2 at 0"
        self.check(text, ("lie", "a"), 0)
        self.check(text, ("lie", "b"), None)
        self.check(text, ("lie", "b"), 6, most=6)
        self.check(text, ("envy",), None)
        self.check(text, ("shake", "a", 1), 0)
        text = text.replace("at 0", "at 4")
        self.check(text, ("shake", "a", 1), 4)
        # The seat can always meet the other bid; at equal ones, which cost 4, it can give the thing up.
        self.check(text, ("lie", "b"), None)
        self.check(text, ("lie", "b"), 5, most=9)
        self.check(text, ("lie", "b"), 4, most=6)
        self.check(text, ("charge",), 4)
        self.check(text, ("ring", ("a", "b")), None)
        self.check(text, ("ring", ("a", "b")), 5, most=9)

    def test_bids_one_beside_written_integers(self):
        for sign, low_waste in (("<", 9), ("<=", 10)):
            text = f"seats a b\nif a {sign} 10: keep\nsell a at 20"
            self.check(text, ("charge",), 20 - low_waste - 1)
            self.check(text, ("lie", "a"), 20 - low_waste - 1)
            self.check(text, ("lie", "a"), 20 - low_waste - 1, most=low_waste + 1)
            self.check(text, ("lie", "a"), 0, most=low_waste)
            self.check(text, ("waste",), None)
            self.check(text, ("seller", "b"), 0)
            self.check(text, ("shake", "a", 1), 20)
            self.check(text, ("shake", "a", 1), 20, most=low_waste + 1)
            self.check(text, ("shake", "a", 1), 0, most=low_waste)

    def test_integers_at_both_ends_of_their_range(self):
        text = f"seats a\nif a < {TOP}: keep\nsell a at {TOP}"
        self.assertIs(truthful(Rule.read(text)), True)
        self.check(text, ("waste",), TOP - 1)
        self.check(text, ("waste",), TOP - 1, most=TOP)
        self.check(text, ("waste",), TOP - 2, most=TOP - 2)
        self.check(text, ("charge",), 0)
        self.check(text, ("shake", "a", 1), TOP, most=TOP)
        self.check(text, ("shake", "a", 1), 0, most=TOP - 1)
        text = text.replace("<", "<=")
        self.check(text, ("waste",), TOP)
        self.check(text, ("shake", "a", TOP), 0, most=TOP)
        self.check(text, ("shake", "a", TOP), TOP)
        text = f"seats a b\nif a <= 0: sell b at {TOP}\nif {TOP} < a: sell b at 0\nsell b at a"
        self.check(text, ("charge",), TOP)
        self.check(text, ("lie", "a"), 0)
        self.check(text, ("ring", ("a", "b")), TOP)
        self.check(text, ("ring", ("a", "b")), TOP - 1, most=TOP)
        self.check(text, ("ring", ("a", "b")), TOP - 1, most=1)
        self.check(text, ("ring", ("a", "b")), 0, most=0)
        self.check(text, ("shake", "a", 1), TOP)
        self.check(text, ("shake", "a", 1), TOP - 1, most=1)
        self.check(text, ("seller", "a"), 0)
        self.check(text, ("seller", "b"), 0)
        self.check(text, ("names", "b", "a"), TOP)
        self.check(text, ("names", "b", "a"), TOP - 1, most=TOP)

    def test_names(self):
        text = "seats a b c\nif b < 3: sell a at 10\nsell b at c"
        self.check(text, ("lie", "a"), 0)
        self.check(text, ("names", "a", "b"), 10)
        self.check(text, ("names", "a", "b"), 0, most=2)
        # By a low bid the thing costs 10 instead of what c bids.
        self.check(text, ("names", "b", "a"), None)
        self.check(text, ("names", "b", "a"), 15, most=25)
        self.check(text, ("names", "b", "a"), 10, most=19)
        self.check(text, ("names", "c", "b"), None)
        self.check(text, ("names", "a", "c"), 0)
        # The bid of the other name is 0 at first, so the price is 0 already from a bid of 3 on.
        self.check(text, ("names", "b", "c"), 2)
        self.check(text, ("names", "b", "c"), 0, most=2)

    def test_rings(self):
        self.check(SECOND_OF_FOUR, ("ring", ("a",)), 0)
        for ring in (("a", "b"), ("b", "d"), ("a", "c", "d"), ("a", "b", "c")):
            self.check(SECOND_OF_FOUR, ("ring", ring), None)
            self.check(SECOND_OF_FOUR, ("ring", ring), 7, most=17)
            self.check(SECOND_OF_FOUR, ("ring", ring), 0, most=10)
        # The one seat loses more than another one gains, but both together gain.
        text = "seats a b\nif a < 1: sell b at 2\nsell a at 9"
        self.check(text, ("ring", ("a", "b")), None)
        self.check(text, ("ring", ("a", "b")), 16, most=10)
        text = "seats a b c\nif c < 5: sell a at 1\nif b < 5: sell c at 4\nsell b at 0"
        self.check(text, ("ring", ("a", "b", "c")), None)
        self.check(text, ("ring", ("a", "b", "c")), 0, most=4)
        self.check(text, ("ring", ("a", "b", "c")), 9 + 1, most=9)

    def test_seller(self):
        self.check(SECOND_OF_FOUR, ("seller", "d"), None)
        self.check(SECOND_OF_FOUR, ("seller", "d"), 25 - 10, most=25)
        self.check(SECOND_OF_FOUR, ("seller", "a"), 24 - 10, most=25)
        self.check(SECOND_OF_FOUR, ("seller", "a"), 0, most=11)
        self.check("seats a b\nsell a at 5", ("seller", "a"), 0)
        self.check("seats a b\nsell a at 5", ("seller", "b"), 0)
        self.check("seats a b\nif a < 2: sell a at 90\nsell b at 5", ("seller", "a"), 5)
        self.check("seats a b\nif a < 2: sell b at 5\nsell a at 90", ("seller", "a"), 0)

    def test_alone(self):
        self.check("seats a b\nsell a at 6", ("charge",), 6)
        self.check("seats a b\nsell a at b", ("charge",), None)
        self.check("seats a b\nsell a at b", ("charge",), 11, most=11)
        self.check("seats a b\nsell a at 6", ("envy",), None)
        self.check("seats a b\nsell a at 6", ("envy",), 5, most=11)
        self.check("seats a b\nsell a at b", ("envy",), 0)
        self.check("seats a b c\nsell 2 at c", ("waste",), None)
        self.check("seats a b c\nif a < 5: keep\nif b < 5: keep\nsell 3 at c", ("waste",), None)
        self.check("seats a b\nlow = low 1 9 a\nif low < 9: sell a at 0\nif 12 < b: sell 1 at 0\nsell a at b",
                   ("waste",), None)
        self.check("seats a b\nif 12 < b: sell 1 at 0\nsell 2 at b", ("waste",), None)
        self.check("seats a b\nif 12 < b: sell 1 at 0\nif 9 <= a: sell 1 at 0\nsell 2 at b", ("waste",), 12)


class BySecondReckoning(Asking):
    def small(self, dice, many, numbers, most):
        text = small_text(dice, many, numbers)
        seats = Rule.read(text).seats
        outcomes = table(text, range(most + 1))
        for question in dice.sample(every_question(seats, [0, 1, 2, most, TOP]), 4):
            self.check(text, question, best(outcomes, seats, question), most)

    def test_one_seat(self):
        dice = random.Random(31)
        for _ in range(60):
            self.small(dice, 1, [0, 1, 2, 4, 6], dice.randint(0, 8))

    def test_two_seats(self):
        dice = random.Random(32)
        for _ in range(120):
            self.small(dice, 2, [0, 1, 2, 3, 5], dice.randint(0, 6))

    def test_three_seats(self):
        dice = random.Random(33)
        for _ in range(50):
            self.small(dice, 3, [0, 1, 2, 3], dice.randint(1, 4))

    def test_four_seats(self):
        dice = random.Random(34)
        for _ in range(30):
            self.small(dice, 4, [0, 1, 2, 3], dice.randint(1, 2))

    def test_every_question_about_one_rule(self):
        text = "seats a b c\nx = high 2 a b 2\ny = low 2 x c 1\nif x < c: sell 2 at y\nif y <= 1: keep\nsell 1 at x"
        outcomes = table(text, range(5))
        for question in every_question("abc", [0, 1, 3]):
            self.check(text, question, best(outcomes, ("a", "b", "c"), question), 4)

    def test_all_bids_are_decided_by_those_near_written_integers(self):
        # Where there is a greatest amount, bids reach it that are by a few numbers beside 0 or a written integer.
        dice = random.Random(35)
        bounded = 0
        for turn in range(45):
            numbers = [[0, 50, TOP], [3, 4, 40], [0, 1, TOP - 1]][turn % 3]
            text = small_text(dice, 2, numbers, 3, 3)
            seats = Rule.read(text).seats
            levels = sorted({max(0, number + near) for number in [0] + numbers for near in range(-3, 5)})
            outcomes = table(text, levels)
            for question in dice.sample(every_question(seats, [0, 1]), 3):
                wanted = greatest(Rule.read(text), question)
                if wanted is not None:
                    bounded += 1
                    self.check(text, question, best(outcomes, seats, question))
                    self.assertEqual(greatest(Rule.read(text), question, most=TOP), best(
                        {bids: sold for bids, sold in outcomes.items() if max(bids) <= TOP}, seats, question))
        self.assertGreater(bounded, 45)


class WithoutEnd(Asking):
    def test_none_exactly_if_amounts_grow_with_most(self):
        dice = random.Random(41)
        told = []
        for _ in range(250):
            many = dice.randint(1, 4)
            text = small_text(dice, many, [0, 1, 2, 7, 30])
            rule = Rule.read(text)
            question = dice.choice(every_question(rule.seats, [0, 1, 9]))
            free = greatest(rule, question)
            self.assertEqual(greatest(rule, question, most=None), free)
            bound = [greatest(rule, question, most=most) for most in (0, 3, 60, 120, 10 ** 6, TOP)]
            self.assertEqual(bound, sorted(bound))
            self.assertGreaterEqual(bound[0], 0)
            self.check(text, question, free)
            told.append(free is None)
            if free is None:
                self.assertTrue(bound[2] < bound[3] < bound[4] < bound[5], (text, question, bound))
                self.assertGreaterEqual(bound[5] - bound[4], (TOP - 10 ** 6) // 4)
            else:
                self.assertEqual(bound[2:], [free] * 4, (text, question))
        self.assertGreater(told.count(True), 50)
        self.assertGreater(told.count(False), 50)

    def test_without_most_no_bids_exceed_the_greatest_amount(self):
        dice = random.Random(42)
        for _ in range(60):
            many = dice.randint(1, 3)
            text = small_text(dice, many, [0, 1, 2, 3])
            rule = Rule.read(text)
            outcomes = table(text, [0, 1, 2, 3, 4, 9, 10 ** 20][:9 - 2 * many])
            for question in dice.sample(every_question(rule.seats, [0, 1, TOP]), 4):
                top = greatest(rule, question)
                if top is not None:
                    self.assertTrue(all(worth <= top for case, worth in cases(outcomes, rule.seats, question)))


class FullSize(Asking):
    def test_a_rule_with_as_much_of_everything_as_there_may_be(self):
        rule = Rule.read(FULL_TEXT)
        self.assertEqual((len(rule.seats), len(rule.lines), len(rule.rows)), (4, 8, 6))
        dice = random.Random(51)
        numbers = [0, 1, 3, 4, 5, 7, 8, 12, 100, TOP - 1, TOP]
        levels = sorted({max(0, number + near) for number in numbers for near in (-1, 0, 1)}) + [2 * TOP, 10 ** 30]
        for question in (
            ("lie", "a"), ("lie", "c"), ("ring", ("d",)), ("ring", ("b", "d")), ("ring", ("a", "b", "c")),
            ("names", "c", "a"), ("seller", "b"), ("shake", "c", 1), ("shake", "d", TOP), ("charge",), ("envy",),
            ("waste",),
        ):
            for most in (None, TOP, 13):
                top = greatest(rule, question, most=most)
                least = 10 ** 39 if top is None else top
                self.check_case(FULL_TEXT, question, shown(rule, question, least, most=most), least, most)
                if top is not None:
                    self.assertIsNone(shown(rule, question, top + 1, most=most))
                for _ in range(40):
                    self.try_case(rule, question, top, [level for level in levels if most is None or level <= most], dice)

    def try_case(self, rule, question, top, levels, dice):
        """No case by chance exceeds the greatest amount."""
        bids = [dice.choice(levels) for _ in rule.seats]
        moved = list(bids)
        for seat in movers(question):
            at = rule.seats.index(seat)
            moved[at] = dice.choice(levels)
            if question[0] == "shake":
                low_end = max(0, bids[at] - question[2])
                moved[at] = min(max(moved[at], low_end), min(bids[at] + question[2], max(levels)))
            if question[0] == "seller" or question[0] == "names" and seat == question[2]:
                bids[at] = 0
        if top is not None:
            self.assertLessEqual(amount(rule, question, (tuple(bids), tuple(moved))), top, (question, bids, moved))

    def test_rules_by_chance(self):
        dice = random.Random(52)
        for _ in range(6):
            text = small_text(dice, 4, list(range(0, 90, 7)) + [TOP], 8, 5)
            rule = Rule.read(text)
            levels = [level for number in range(0, 90, 7) for level in (number, number + 1, number + 6)]
            for question in every_question(rule.seats, [0, 5, TOP]):
                top = greatest(rule, question, most=100)
                self.check(text, question, top, 100)
                for _ in range(20):
                    self.try_case(rule, question, top, levels, dice)


class SameEachTime(Asking):
    def test_equal_arguments_give_equal_results(self):
        dice = random.Random(61)
        for _ in range(40):
            text = small_text(dice, 3, [0, 1, 4])
            for question in dice.sample(every_question("abc", [1, 3]), 3):
                for least in (-1, 0, 1, 2):
                    once = shown(Rule.read(text), question, least, most=6)
                    self.assertEqual(once, shown(Rule.read(text), question, least, most=6))
                    self.assertEqual(once, shown(rule=Rule.read(text), question=question, least=least, most=6))
                self.assertEqual(greatest(Rule.read(text), question), greatest(rule=Rule.read(text), question=question))

    def test_kinds_of_values(self):
        for question in every_question("abc", [2]):
            case = shown(second(), question, 0)
            self.assertIs(case.__class__, tuple)
            for bids in case:
                self.assertIs(bids.__class__, tuple)
                self.assertEqual([bid.__class__ for bid in bids], [int] * 3)
            self.assertIs(greatest(second(), question, most=20).__class__, int)


if __name__ == "__main__":
    unittest.main()
