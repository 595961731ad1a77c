"""lead, ahead, same and parting."""

import random
import unittest

from salebids.compare import ahead, lead, parting, same
from salebids.rules import Rule
from tests.reckoning import income, small_text, table
from tests.samples import first, outcome

TOP = 10 ** 12
FIRST_TEXT = str(first())
LOW_TEXT = "seats a b\nnext = low 1 a b\nsell 1 at next"


class Comparing(unittest.TestCase):
    def check(self, one, other, wanted, most=None):
        """The lead is the wanted one, and bids are shown up to it and not beyond it."""
        rules = [Rule.read(one), Rule.read(other)]
        self.assertEqual(lead(*rules, most=most), wanted, (one, other, most))
        tries = (-TOP, 0, TOP, 10 ** 39) if wanted is None else (-10 ** 39, wanted - 1, wanted, wanted + 1, 10 ** 39)
        for least in tries:
            bids = ahead(*rules, least, most=most)
            if wanted is not None and least > wanted:
                self.assertIsNone(bids)
            else:
                self.assertGreaterEqual(income(outcome(one, bids)) - income(outcome(other, bids)), least)
                self.assertTrue(most is None or max(bids) <= most)
                self.assertEqual((len(bids), bids.__class__), (len(rules[0].seats), tuple))

    def check_same(self, one, other, wanted):
        rules = [Rule.read(one), Rule.read(other)]
        for pair in (rules, rules[::-1]):
            bids = parting(*pair)
            self.assertIs(same(*pair), wanted, (one, other))
            self.assertEqual(bids is None, wanted)
            if bids is not None:
                self.assertEqual(bids.__class__, tuple)
                self.assertNotEqual(outcome(one, bids), outcome(other, bids), (one, other, bids))


class Leads(Comparing):
    def test_the_examples(self):
        low, top = Rule.read(LOW_TEXT), first()
        self.assertEqual([
            lead(top, low), lead(top, low, most=9), lead(low, top),
            same(low, Rule.read("seats a b\nx = high 2 b a\nsell 1 at x")), ahead(low, top, 5),
        ], [None, 9, 4, True, None])

    def test_by_name(self):
        low, top = Rule.read(LOW_TEXT), first()
        self.assertEqual(lead(one=low, other=top, most=2), 2)
        self.assertEqual(lead(other=low, one=top), None)
        self.assertEqual(ahead(least=5, one=low, other=top), None)
        self.assertIs(same(other=low, one=low), True)
        self.assertIsNone(parting(other=low, one=low))

    def test_both_ways(self):
        self.check(FIRST_TEXT, LOW_TEXT, None)
        self.check(FIRST_TEXT, LOW_TEXT, 9, most=9)
        self.check(FIRST_TEXT, LOW_TEXT, 0, most=4)
        self.check(LOW_TEXT, FIRST_TEXT, 4)
        self.check(LOW_TEXT, FIRST_TEXT, 3, most=3)
        self.check(LOW_TEXT, LOW_TEXT, 0)

    def test_leads_below_0(self):
        self.check("seats a\nkeep", "seats a\nsell a at 7", -7)
        self.check("seats a\nsell a at 7", "seats a\nkeep", 7)
        self.check("seats a\nsell a at a", "seats a\nx = high 1 a 4\nsell a at x", 0)
        self.check("seats a\nsell a at a", "seats a\nx = high 1 a 4\nsell a at x", -1, most=3)
        self.check("seats a\nsell a at a", f"seats a\nsell a at {TOP}", None)
        self.check("seats a\nsell a at a", f"seats a\nsell a at {TOP}", 0, most=TOP)
        self.check("seats a\nsell a at 0", f"seats a\nsell a at {TOP}", -TOP)
        self.check(f"seats a\nsell a at {TOP}", "seats a\nsell a at 0", TOP)

    def test_the_winner_does_not_count(self):
        self.check("seats a b\nsell a at b", "seats a b\nsell b at b", 0)
        self.check_same("seats a b\nsell a at b", "seats a b\nsell b at b", False)

    def test_by_the_second_reckoning(self):
        dice = random.Random(71)
        for turn in range(160):
            many = 1 + turn % 4
            texts = [small_text(dice, many, [0, 1, 2, 3]) for _ in range(2)]
            most = dice.randint(0, (7, 5, 3, 2)[many - 1])
            tables = [table(text, range(most + 1)) for text in texts]
            for one, other in ((0, 1), (1, 0)):
                wanted = max(income(tables[one][bids]) - income(tables[other][bids]) for bids in tables[0])
                self.check(texts[one], texts[other], wanted, most)

    def test_none_exactly_if_the_lead_grows_with_most(self):
        dice = random.Random(72)
        told = []
        for _ in range(150):
            many = dice.randint(1, 4)
            texts = [small_text(dice, many, [0, 1, 2, 7, 30]) for _ in range(2)]
            rules = [Rule.read(text) for text in texts]
            free = lead(*rules)
            self.assertEqual(lead(*rules, most=None), free)
            self.check(*texts, free)
            bound = [lead(*rules, most=most) for most in (60, 120, 10 ** 6, TOP)]
            told.append(free is None)
            if free is None:
                self.assertTrue(bound[0] < bound[1] < bound[2] < bound[3], (texts, bound))
            else:
                self.assertEqual(bound, [free] * 4, texts)
        self.assertGreater(told.count(True), 30)
        self.assertGreater(told.count(False), 30)


class Same(Comparing):
    def test_the_same_though_written_otherwise(self):
        for one, other in (
            (LOW_TEXT, "seats a b\nx = high 2 b a\nsell 1 at x"),
            (LOW_TEXT, "seats a b\nif b <= a: sell a at b\nsell b at a"),
            (LOW_TEXT, "seats a b\nif a < b: sell b at a\nsell a at b"),
            (FIRST_TEXT, "seats a b\nhi = low 2 a b\nif hi <= 4: keep\nif b <= a: sell a at a\nsell b at b"),
            ("seats a b c\nx = high 2 a b c\nsell 2 at x", "seats a b c\ny = low 2 c a b\nz = low 1 y\nsell 2 at z"),
            ("seats a\nif a < 1: keep\nsell a at a", "seats a\nif 0 < a: sell 1 at a\nkeep"),
            ("seats a\nif a <= 0: sell a at 0\nsell a at a", "seats a\nsell a at a"),
            ("seats a b\nif a < 3: keep\nif a < 2: sell a at 9\nsell b at b", "seats a b\nif a < 3: keep\nsell b at b"),
            ("seats a b\nkeep", "seats a b\nx = high 1 a b\nif x < 0: sell a at 0\nif a < a: sell b at b\nkeep"),
            ("seats a b\nif 3 <= a: keep\nif a <= 2: sell b at 1\nsell a at b", "seats a b\nif a < 3: sell b at 1\nkeep"),
            ("seats a b\nif a < b: sell b at 5\nsell a at 5", "seats a b\nsell 1 at 5"),
        ):
            self.check_same(one, other, True)
            self.check(one, other, 0)
            self.check(other, one, 0)

    def test_parting_at_few_bids_alone(self):
        for one, other, only in (
            ("seats a b\nif a < 3: keep\nsell b at b", "seats a b\nif a <= 3: keep\nsell b at b", lambda a, b: a == 3),
            (LOW_TEXT, "seats a b\nif a <= b: sell b at a\nsell a at b", lambda a, b: a == b),
            ("seats a b\nsell a at b", f"seats a b\nx = low 1 b {TOP}\nsell a at x", lambda a, b: b > TOP),
            ("seats a b\nsell a at b", "seats a b\nx = high 1 b 1\nsell a at x", lambda a, b: b == 0),
            ("seats a b\nsell a at b", f"seats a b\nif a < {TOP}: sell a at b\nif {TOP} < a: sell a at b\nkeep",
             lambda a, b: a == TOP),
            ("seats a b\nkeep", "seats a b\nif a < 7: keep\nif 7 < a: keep\nif b < a: keep\nif a < b: keep\nsell a at 0",
             lambda a, b: a == b == 7),
            ("seats a b\nsell a at 0", "seats a b\nif 0 < a: sell a at 0\nif 0 < b: sell a at 0\nsell b at 0",
             lambda a, b: a == b == 0),
        ):
            self.check_same(one, other, False)
            self.assertTrue(only(*parting(Rule.read(one), Rule.read(other))))
            self.assertTrue(only(*parting(Rule.read(other), Rule.read(one))))

    def test_by_the_second_reckoning(self):
        dice = random.Random(73)
        told = []
        for turn in range(400):
            many = 1 + turn % 3
            one = small_text(dice, many, [0, 1, 2], 2, 2)
            rows = one.split("\n")
            # Most of the others have one row changed, and many of them are the same for all bids.
            at = dice.randrange(1, len(rows))
            other = small_text(dice, many, [0, 1, 2], 2, 2)
            for _ in range(30):
                word = dice.choice(["a", "0", "1", "2", "<", "<=", "high", "low"])
                words = rows[at].split(" ")
                words[dice.randrange(len(words))] = word
                text = "\n".join(rows[:at] + [" ".join(words)] + rows[at + 1:])
                if is_rule(text):
                    other = text
                    break
            tables = [table(text, range(6)) for text in (one, other)]
            told.append(tables[0] == tables[1])
            self.check_same(one, other, told[-1])
        self.assertGreater(told.count(True), 50)
        self.assertGreater(told.count(False), 50)

    def test_the_same_each_time(self):
        dice = random.Random(74)
        for _ in range(40):
            texts = [small_text(dice, 3, [0, 1, 4]) for _ in range(2)]
            once, again = [[Rule.read(text) for text in texts] for _ in range(2)]
            self.assertEqual(parting(*once), parting(*again))
            for least in (-3, 0, 2):
                self.assertEqual(ahead(*once, least, most=5), ahead(*again, least, most=5))


def is_rule(text):
    try:
        Rule.read(text)
    except ValueError:
        return False
    return True


if __name__ == "__main__":
    unittest.main()
