"""mends: all least sets of changes, and no others."""

import itertools
import random
import unittest

from salebids.asking import greatest
from salebids.errors import InvalidChange, InvalidChanges
from salebids.mends import mends
from salebids.rules import Rule
from tests.reckoning import best, every_question, small_text, table
from tests.samples import Agrees, Refuses, caught, first, odd_values

STEPS = Rule.read("seats a\nif a < 2: sell a at 7\nif a < 4: sell a at 7\nsell a at 0")
KEEPS = (("row", 0, "if a < 2: keep"), ("row", 1, "if a < 4: keep"))


class ByHand(unittest.TestCase):
    def test_the_example(self):
        changes = (("line", "top", "low 1 a b"), ("row", 0, "if top < 1: keep"))
        self.assertEqual([
            mends(first(), ("waste",), 4, changes), mends(first(), ("waste",), 0, changes),
            mends(first(), ("lie", "a"), 0, changes),
        ], [((),), ((1,),), ((0,),)])

    def test_none_one_several_and_all_are_needed(self):
        self.assertEqual(mends(STEPS, ("charge",), 7, KEEPS), ((),))
        self.assertEqual(mends(STEPS, ("charge",), 6, KEEPS), ((0,),))
        self.assertEqual(mends(STEPS, ("charge",), 5, KEEPS), ((0,),))
        self.assertEqual(mends(STEPS, ("charge",), 4, KEEPS), ((0, 1),))
        self.assertEqual(mends(STEPS, ("charge",), 0, KEEPS[::-1]), ((0, 1),))
        self.assertEqual(mends(STEPS, ("charge",), 0, KEEPS + (("row", 2, "keep"),)), ((0, 1),))
        self.assertEqual(mends(STEPS, ("charge",), 0, KEEPS[:1]), ())
        self.assertEqual(mends(rule=STEPS, question=("charge",), limit=0, changes=KEEPS), ((0, 1),))

    def test_the_empty_tuple_of_changes(self):
        self.assertEqual(mends(STEPS, ("charge",), 7, ()), ((),))
        self.assertEqual(mends(STEPS, ("charge",), 6, ()), ())
        self.assertEqual(mends(STEPS, ("charge",), 10 ** 39, ()), ((),))

    def test_no_limit_is_great_enough_where_there_is_no_greatest_amount(self):
        self.assertEqual(mends(first(), ("lie", "a"), 10 ** 39, ()), ())
        self.assertEqual(mends(first(), ("lie", "a"), 10 ** 39, (("line", "top", "low 1 a b"),)), ((0,),))

    def test_a_greater_set_need_not_mend(self):
        # Each change alone makes the price 3, both together make it 8.
        rule = Rule.read("seats a\nx = high 1 9\ny = high 1 9\nif x < y: sell a at 3\nif y < x: sell a at 3\nsell a at x")
        changes = (("line", "x", "low 1 8"), ("line", "y", "low 1 8"))
        self.assertEqual(mends(rule, ("charge",), 3, changes), ((0,), (1,)))
        self.assertEqual(mends(rule, ("charge",), 8, changes), ((0,), (1,)))
        self.assertEqual(mends(rule, ("charge",), 9, changes), ((),))
        self.assertEqual(mends(rule, ("charge",), 2, changes), ())

    def test_fewer_indexes_first_then_ascending(self):
        rule = Rule.read("seats a\nx = high 1 5\ny = high 1 5\nz = high 1 5\np = low 3 x y z\nsell a at p")
        zeros = tuple(("line", name, "low 1 0") for name in "xyz")
        # The price is the greatest one of x, y and z; with the last change it is 0 at once.
        changes = zeros + (("row", 0, "sell a at 0"),)
        self.assertEqual(mends(rule, ("charge",), 0, changes), ((3,), (0, 1, 2)))
        changes = (("line", "p", "low 2 x y z"),) + zeros
        self.assertEqual(mends(rule, ("charge",), 0, changes), ((0, 1, 2), (0, 1, 3), (0, 2, 3), (1, 2, 3)))
        changes = zeros + (("line", "p", "low 1 x y z"),)
        self.assertEqual(mends(rule, ("charge",), 4, changes), ((0, 3), (1, 3), (2, 3), (0, 1, 2)))

    def test_six_changes_of_which_all_are_needed(self):
        names = ["x", "y", "z", "u", "v", "w"]
        lines = tuple((name, "high 1 5") for name in names) + (("p", "high 1 x y z u v w"),)
        rule = Rule(("a", "b"), lines, ("sell a at p",))
        changes = tuple(("line", name, f"high 1 {at}") for at, name in enumerate(names[::-1]))
        self.assertEqual(mends(rule, ("charge",), 5, changes), ((),))
        self.assertEqual(mends(rule, ("charge",), 4, changes), ())
        changes = tuple(("line", name, "high 1 1") for name in names)
        self.assertEqual(mends(rule, ("charge",), 4, changes), ((0, 1, 2, 3, 4, 5),))
        self.assertEqual(mends(rule, ("charge",), 1, changes), ((0, 1, 2, 3, 4, 5),))

    def test_the_same_term_again_is_a_change(self):
        changes = (("line", "top", "high 1 a b"), ("row", 0, "if top < 5: keep"), ("row", 1, "sell 1 at top"))
        self.assertEqual(mends(first(), ("waste",), 4, changes), ((),))
        self.assertEqual(mends(first(), ("waste",), 3, changes), ())


class ByDefinition(unittest.TestCase):
    def least(self, rule, question, limit, changes):
        """The least sets, by the definition."""
        mending = []
        for many in range(len(changes) + 1):
            for indexes in itertools.combinations(range(len(changes)), many):
                other = rule
                for at in reversed(indexes):
                    other = other.changed(changes[at])
                top = greatest(other, question)
                if top is not None and top <= limit:
                    mending.append(indexes)
        return tuple(
            indexes for indexes in mending
            if not any(set(part) < set(indexes) for part in mending)
        )

    def some_changes(self, dice, rule, many):
        """Some different changes of a rule."""
        found = {}
        for _ in range(60):
            other = Rule.read(small_text(dice, len(rule.seats), [0, 1, 2, 5], 4, 4))
            for name, term in other.lines:
                self.keep(rule, ("line", name, term), found)
            for at, row in enumerate(other.rows):
                self.keep(rule, ("row", at, row), found)
        return tuple(dice.sample(list(found.values()), min(many, len(found))))

    def keep(self, rule, change, found):
        try:
            rule.changed(change)
        except InvalidChange:
            return
        found[change[:2]] = change

    def test_by_chance(self):
        dice = random.Random(81)
        sizes = {}
        for _ in range(150):
            rule = Rule.read(small_text(dice, dice.randint(1, 3), [0, 1, 2, 5], 4, 4))
            question = dice.choice(every_question(rule.seats, [0, 1, 2]))
            changes = self.some_changes(dice, rule, dice.randint(0, 6))
            for limit in (0, 2):
                found = mends(rule, question, limit, changes)
                self.assertEqual(found, self.least(rule, question, limit, changes), (str(rule), question, changes))
                for indexes in found:
                    sizes[len(indexes)] = sizes.get(len(indexes), 0) + 1
        self.assertTrue(all(sizes.get(many, 0) > 3 for many in (0, 1, 2)), sizes)

    def test_what_mends_by_the_second_reckoning(self):
        dice = random.Random(82)
        for _ in range(40):
            rule = Rule.read(small_text(dice, 2, [0, 1, 2, 5], 3, 3))
            question = dice.choice(every_question(rule.seats, [1]))
            changes = self.some_changes(dice, rule, 3)
            for indexes in mends(rule, question, 1, changes):
                other = rule
                for at in indexes:
                    other = other.changed(changes[at])
                self.assertLessEqual(best(table(str(other), range(8)), rule.seats, question), 1)


class NoChanges(unittest.TestCase):
    def refuses(self, changes, index, rule=STEPS):
        self.assertEqual(caught(InvalidChanges, mends, rule, ("charge",), 0, changes).index, index)

    def test_what_is_no_tuple(self):
        for value in odd_values() + [list(KEEPS), "", {}]:
            if not isinstance(value, tuple):
                self.refuses(value, None)

    def test_what_is_no_change(self):
        for value in odd_values() + [
            ("row", 3, "keep"), ("row", 0, "keep"), ("row", 2, "if a < 4: keep"), ("line", "x", "low 1 a"), KEEPS,
            list(KEEPS[0]), ("row", True, "if a < 4: keep"), ("row", 0), Agrees(), Refuses(), (), KEEPS[0] + (1,),
        ]:
            self.refuses((value,), 0)
            self.refuses(KEEPS + (value,), 2)
            self.refuses(KEEPS[:1] + (value,) + KEEPS[1:], 1)
            self.refuses((value, value) + KEEPS, 0)

    def test_one_line_or_row_twice(self):
        self.refuses((KEEPS[0], KEEPS[0]), 1)
        self.refuses((KEEPS[0], KEEPS[1], ("row", 0, "if a < 1: keep")), 2)
        self.refuses((KEEPS[0], KEEPS[1], ("row", 1, "if a < 1: keep"), None), 2)
        rule = Rule.read("seats a\nx = low 1 a\ny = low 1 a\nsell a at x")
        self.refuses((("line", "x", "low 1 a"), ("line", "y", "low 1 a"), ("line", "x", "low 1 5")), 2, rule)
        self.assertEqual(mends(rule, ("charge",), 0, (("line", "x", "low 1 a"), ("line", "y", "low 1 a"))), ((),))

    def test_seven_of_them(self):
        names = ["x", "y", "z", "u", "v", "w", "q"]
        rule = Rule(("a",), tuple((name, "low 1 a") for name in names), ("keep",))
        changes = tuple(("line", name, "low 1 5") for name in names)
        self.refuses(changes, 6, rule)
        self.refuses(changes + changes, 6, rule)
        self.refuses(changes[:6] + (None,), 6, rule)
        self.refuses(changes[:5] + (None,) + changes[6:], 5, rule)
        self.refuses(changes[:5] + changes[:2], 5, rule)
        self.assertEqual(mends(rule, ("charge",), 0, changes[:6]), ((),))

    def test_changes_are_those_of_the_rule_itself(self):
        # Behind the first change the second one would still be one, but it is none of the rule as it is.
        rule = Rule.read("seats a\nx = low 1 a\nsell a at x")
        self.refuses((("line", "x", "low 1 5"), ("line", "y", "low 1 x")), 1, rule)


if __name__ == "__main__":
    unittest.main()
