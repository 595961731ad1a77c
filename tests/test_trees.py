"""Trees: their form, the facts of their nodes, and what the cases at a node () must have in common."""

import itertools
import random
import unittest

from salebids.asking import greatest
from salebids.checker import accepts
from salebids.rules import Rule
from tests.papers import all_cases, flat, second_check, seats_of, shaped, spoiled, written_tree
from tests.reckoning import every_question, movers, small_text
from tests.samples import FIRST_TEXT, Agrees, Refuses, odd_values
from tests.test_books import LOW
from tests.test_checker import put_in

A, B = ("bid", "a"), ("bid", "b")
NEW_A, NEW_B = ("moved", "a"), ("moved", "b")
CLAIM = ("most", LOW, ("lie", "a"), 0)
# All comparisons that the lower one of two bids needs, for bids and for moved.
TREE = ((A, B, 1, 2), (NEW_A, B, 3, 4), (NEW_A, B, 5, 6), (), (), (), ())
ONE = "seats a\nsell a at 3"
EDGE = 10 ** 12


def shortened(nested):
    """All that is left of nodes within nodes if one of them becomes ()."""
    if not nested:
        return []
    *pair, yes, no = nested
    return [()] + [(*pair, less, no) for less in shortened(yes)] + [(*pair, yes, less) for less in shortened(no)]


class Form(unittest.TestCase):
    def test_it_is_accepted(self):
        self.assertIs(accepts(CLAIM, TREE), True)

    def test_a_node_left_out(self):
        for at in range(len(TREE)):
            self.assertIs(accepts(CLAIM, TREE[:at] + TREE[at + 1:]), False)
        self.assertIs(accepts(CLAIM, ()), False)

    def test_a_node_doubled(self):
        for at in range(len(TREE)):
            self.assertIs(accepts(CLAIM, TREE[:at] + TREE[at:at + 1] + TREE[at:]), False)
            self.assertIs(accepts(CLAIM, TREE + TREE[at:at + 1]), False)

    def test_nodes_exchanged(self):
        for one, other in itertools.combinations(range(len(TREE)), 2):
            nodes = list(TREE)
            nodes[one], nodes[other] = nodes[other], nodes[one]
            # The nodes 1 and 2 compare the same two marks, and behind them stand nodes () alone.
            self.assertIs(accepts(CLAIM, tuple(nodes)), one >= 1 and other <= 2 or one >= 3)

    def test_the_order_of_nodes_is_free_behind_those_that_name_them(self):
        tree = ((A, B, 5, 1), (NEW_A, B, 2, 3), (), (), (), (NEW_A, B, 6, 4), ())
        self.assertIs(accepts(CLAIM, tree), False)
        tree = ((A, B, 4, 1), (NEW_A, B, 2, 3), (), (), (NEW_A, B, 6, 5), (), ())
        self.assertIs(accepts(CLAIM, tree), True)

    def test_named_twice_or_not_at_all(self):
        for node in ((NEW_A, B, 5, 6), (NEW_A, B, 3, 5), (NEW_A, B, 3, 3), (NEW_A, B, 2, 4), (NEW_A, B, 4, 4)):
            self.assertIs(accepts(CLAIM, put_in(TREE, 1, node)), False)
        self.assertIs(accepts(CLAIM, put_in(TREE, 0, (A, B, 1, 1))), False)
        self.assertIs(accepts(CLAIM, TREE + ((),)), False)
        self.assertIs(accepts(CLAIM, TREE + ((A, B, 8, 9), (), ())), False)

    def test_all_forms_of_few_nodes(self):
        """Nodes with indexes of all kinds, where marks and facts are right for each of them."""
        claim = ("most", ONE, ("charge",), 3)
        accepted = []
        for many, indexes in ((1, range(-1, 3)), (2, range(-2, 4)), (3, range(-1, 4)), (4, range(1, 4))):
            nodes = [()] + [(0, 0, yes, no) for yes in indexes for no in indexes]
            for tree in itertools.product(nodes, repeat=many):
                self.assertIs(accepts(claim, tree), shaped(tree, []), tree)
                accepted += [tree] if shaped(tree, []) else []
        self.assertEqual(len(accepted), 3)
        nodes = [()] + [(0, 0, yes, no) for yes, no in itertools.permutations(range(1, 5), 2)]
        found = [tree for tree in itertools.product(nodes, repeat=4) if accepts(claim, tree + ((),))]
        self.assertEqual(found, [tree for tree in itertools.product(nodes, repeat=4) if shaped(tree + ((),), [])])
        self.assertGreater(len(found), 8)

    def test_indexes_that_do_not_lie_behind(self):
        for index in (0, 1, -1, -3, 7, 8, EDGE):
            self.assertIs(accepts(CLAIM, put_in(TREE, 1, (NEW_A, B, index, 4))), False)
            self.assertIs(accepts(CLAIM, put_in(TREE, 1, (NEW_A, B, 3, index))), False)
        # A ring of nodes that name each other, of which the first one knows nothing.
        self.assertIs(accepts(("most", ONE, ("waste",), 0), ((), (0, 0, 2, 3), (0, 0, 1, 4), (), ())), False)

    def test_indexes_that_are_no_integers(self):
        self.assertIs(accepts(("most", ONE, ("waste",), 0), ((0, 0, 1, 2), (), ())), True)
        for index in (True, "1", None, (1,), [1], b"1", Agrees(), Refuses()):
            self.assertIs(accepts(("most", ONE, ("waste",), 0), ((0, 0, index, 2), (), ())), False)
            self.assertIs(accepts(("most", ONE, ("waste",), 0), ((0, 0, 2, index), (), ())), False)

    def test_nodes_of_any_kind(self):
        for at in range(len(TREE)):
            near = [TREE[at] + (0,), [], list(TREE[at]), (TREE[at],), (A,), (A, B), (A, B, 1), "()"]
            for value in odd_values() + near:
                self.assertIs(accepts(CLAIM, put_in(TREE, at, value)), False)
        for value in (list(TREE), [()], {}, "", None, dict(enumerate(TREE)), (TREE,)):
            self.assertIs(accepts(CLAIM, value), False)

    def test_marks_of_any_kind(self):
        wrong = [
            ("bid", "c"), ("moved", "c"), ("bid", "next"), ("bids", "a"), ("", "a"), ("bid",), ("bid", "a", 0),
            ("bid", 0), ["bid", "a"], "a", "bid", (b"bid", "a"), ("bid", b"a"), ("bid", ("a",)), (("bid",), "a"),
            ("bid", ["a"]), (["bid"], "a"), ("bid", None), (), ("a", "bid"), ("Moved", "a"), ("bid", Agrees()),
            (Agrees(), "a"), ({}, "a"), (Refuses(), Refuses()),
        ]
        for value in wrong + [value for value in odd_values() if value.__class__ is not int]:
            self.assertIs(accepts(CLAIM, put_in(TREE, 1, (value, B, 3, 4))), False)
            self.assertIs(accepts(CLAIM, put_in(TREE, 1, (NEW_A, value, 3, 4))), False)

    def test_marks_at_nodes_that_no_case_has(self):
        for mark, good in ((A, True), (7, True), (NEW_A, True), (("bid", "c"), False), (True, False)):
            tree = put_in(put_in(TREE, 3, (B, A, 7, 8)) + ((), (A, B, 9, 10), (), ()), 8, (mark, B, 9, 10))
            self.assertIs(accepts(CLAIM, tree), good)
            tree = put_in(TREE, 3, (0, 1, 7, 8)) + ((mark, B, 9, 10), (), (), ())
            self.assertIs(accepts(CLAIM, tree), good)
        tree = put_in(TREE, 3, (0, 1, 7, 8)) + ((A, B, 9, 9), (), ())
        self.assertIs(accepts(CLAIM, tree), False)

    def test_moved_is_no_mark_for_some_claims(self):
        for claim in (("most", ONE, ("charge",), 3), ("most", ONE, ("envy",), 0), ("most", ONE, ("waste",), 0),
                      ("lead", ONE, ONE, 0), ("same", ONE, ONE)):
            self.assertIs(accepts(claim, ((),)), True)
            self.assertIs(accepts(claim, ((A, 5, 1, 2), (), ())), True)
            self.assertIs(accepts(claim, ((NEW_A, 5, 1, 2), (), ())), False)
            self.assertIs(accepts(claim, ((5, NEW_A, 1, 2), (), ())), False)

    def test_moved_is_a_mark_for_the_others_also_of_seats_that_stay(self):
        text = "seats a b\nsell a at 3"
        for question in (("lie", "a"), ("ring", ("a",)), ("names", "a", "b"), ("seller", "a"), ("shake", "a", 1)):
            for mark in (NEW_A, NEW_B):
                self.assertIs(accepts(("most", text, question, 9), ((mark, 5, 1, 2), (), ())), True)
        # A seat that stays: its bid and its moved bid are the same number.
        self.assertIs(accepts(CLAIM, put_in(TREE, 0, (A, NEW_B, 1, 2))), True)
        self.assertIs(accepts(CLAIM, put_in(TREE, 1, (NEW_A, NEW_B, 3, 4))), True)
        unlike = put_in(TREE, 3, (B, NEW_B, 7, 8)) + ((), ())
        self.assertIs(accepts(CLAIM, unlike), True)


class Facts(unittest.TestCase):
    def test_yes_is_at_least_and_no_is_less(self):
        claim = ("most", "seats a\nif a < 3: keep\nsell a at 3", ("charge",), 0)
        self.assertIs(accepts(claim, ((A, 3, 1, 2), (), ())), True)
        self.assertIs(accepts(claim, ((A, 3, 2, 1), (), ())), True)
        self.assertIs(accepts(claim, ((2, A, 1, 2), (), ())), True)
        for wrong in ((A, 4, (), ()), (A, 2, (), ()), (3, A, (), ()), (1, A, (), ()), ()):
            self.assertIs(accepts(claim, flat(wrong)), False)

    def test_unlike_answers_are_left_though_the_amounts_are_right(self):
        self.assertIs(accepts(put_in(CLAIM, 3, 10 ** 39), ((),)), False)
        for at in (1, 2):
            shorter = ((A, B, 1, 2), (), (NEW_A, B, 3, 4), (), ())
            other = ((A, B, 2, 1), (), (NEW_A, B, 3, 4), (), ())
            self.assertIs(accepts(CLAIM, shorter if at == 1 else other), False)
        for tree in (((B, A, 1, 2), *TREE[1:]), put_in(TREE, 1, (B, NEW_A, 3, 4)), put_in(TREE, 2, (A, B, 5, 6))):
            self.assertIs(accepts(CLAIM, tree), False)

    def test_answers_that_bear_on_nothing_count_too(self):
        # Lines that no row needs, their parts in order, and conditions of rows that do the same.
        for rows, nested in (
            ("x = high 1 a 7\nkeep", (A, 7, (), ())), ("x = high 1 7 a\nkeep", (7, A, (), ())),
            ("x = low 2 a b\nkeep", (A, B, (), ())), ("x = low 2 b a\nkeep", (B, A, (), ())),
            ("if a < 4: keep\nkeep", (A, 4, (), ())), ("if a <= 4: keep\nkeep", (4, A, (), ())),
            ("x = low 1 a 3\ny = high 1 x 2\nkeep", (A, 3, (), (A, 2, (), ()))),
            ("x = low 1 a b 3\nkeep", (A, B, (B, 3, (), (A, 3, (), ())), (A, 3, (), (B, 3, (), ())))),
            ("x = low 1 a 3\nif x < 2: keep\nif b < x: keep\nkeep", (A, 3, (B, 3, (), ()), (A, 2, (B, A, (), ()), ()))),
        ):
            text = "seats a b\n" + rows
            for claim in (("most", text, ("charge",), 0), ("same", text, text), ("lead", "seats a b\nkeep", text, 0)):
                self.assertIs(accepts(claim, flat(nested)), True, rows)
                for less in shortened(nested):
                    self.assertIs(accepts(claim, flat(less)), False, (rows, less))

    def test_rows_behind_the_one_that_is_done_do_not_count(self):
        text = "seats a b\nif a < 4: keep\nif b < 4: keep\nif a < 6: keep\nkeep"
        tree = ((A, 4, 1, 2), (B, 4, 3, 4), (), (A, 6, 5, 6), (), (), ())
        self.assertIs(accepts(("most", text, ("charge",), 0), tree), True)
        self.assertIs(accepts(("most", text, ("charge",), 0), ((A, 4, 1, 2), (B, 4, 3, 4), (), (), ())), False)

    def test_bids_are_compared_for_an_integer_k_and_for_some_questions(self):
        for row, question, limit, asked in (
            ("sell 1 at 0", ("charge",), 0, True), ("sell 2 at 0", ("charge",), 0, True),
            ("sell a at 0", ("charge",), 0, False), ("keep", ("charge",), 0, False), ("keep", ("envy",), 0, True),
            ("sell a at 1", ("charge",), 1, False), ("sell a at 2", ("charge",), 2, False),
        ):
            claim = ("most", "seats a b\n" + row, question, limit)
            self.assertIs(accepts(claim, ((),)), not asked, claim)
            self.assertIs(accepts(claim, ((A, B, 1, 2), (), ())), True, claim)
            self.assertIs(accepts(claim, ((B, A, 1, 2), (), ())), not asked, claim)

    def test_nodes_that_no_case_has(self):
        moved = (NEW_A, B, (), ())
        rest = (A, B, moved, moved)
        # The node () at which all cases would be left has unlike answers.
        for head in ((3, 4, (), rest), (4, 3, rest, ()), (A, 0, rest, ()), (A, A, rest, ()), (-1, NEW_A, (), rest),
                     (B, NEW_B, rest, ()), (10 ** 39, 10 ** 39, rest, ()), (A, -(10 ** 39), rest, ())):
            self.assertIs(accepts(CLAIM, flat(head)), True, head)
        for head in ((4, 3, (), rest), (A, 1, rest, ()), (A, B, rest, ()), (0, NEW_A, (), rest), (A, 10 ** 39, rest, ()),
                     (NEW_A, NEW_B, rest, ()), (A, NEW_A, rest, ()), (A, 10 ** 39, (), rest)):
            self.assertIs(accepts(CLAIM, flat(head)), False, head)

    def test_bids_are_integers(self):
        claim = ("most", "seats a b\nnext = low 1 a b\nsell 1 at next", ("charge",), 0)
        # More than 2 and less than 3: no integer.
        rest = (A, B, (), ())
        self.assertIs(accepts(claim, flat((2, A, rest, (A, 3, rest, ())))), True)
        self.assertIs(accepts(claim, flat((2, A, rest, (A, 4, rest, ())))), False)

    def test_a_ring_of_facts(self):
        text = "seats a b c\nsell 1 at 0"
        claim = ("most", text, ("charge",), 0)
        c = ("bid", "c")
        ac, bc = (A, c, (), ()), (B, c, (), ())
        self.assertIs(accepts(claim, flat((A, B, (B, c, ac, ac), (A, c, bc, bc)))), True)
        # With a >= b and b >= c it is told that a >= c, with a >= b and b < c it is not.
        self.assertIs(accepts(claim, flat((A, B, (B, c, (), ac), (A, c, (), bc)))), True)
        self.assertIs(accepts(claim, flat((A, B, (B, c, ac, ()), (A, c, (), bc)))), False)
        self.assertIs(accepts(claim, flat((A, B, (B, c, (), ac), (A, c, bc, ())))), False)

    def test_a_bid_that_is_0_at_first(self):
        text = "seats a b\nif 1 <= b: keep\nsell a at 0"
        for question in (("names", "a", "b"), ("seller", "b")):
            claim = ("most", text, question, 0)
            self.assertIs(accepts(claim, ((NEW_B, 1, 1, 2), (), ())), True)
            self.assertIs(accepts(claim, ((B, 1, 1, 2), (), (NEW_B, 1, 3, 4), (), ())), True)
            self.assertIs(accepts(claim, ((B, 1, 2, 1), (), (NEW_B, 1, 3, 4), (), ())), False)
        claim = ("most", text, ("ring", ("a", "b")), 0)
        self.assertIs(accepts(claim, ((NEW_B, 1, 1, 2), (), ())), False)

    def test_steps_at_their_edges(self):
        text = "seats a\nif a < 5: keep\nsell a at 5"
        both = ((A, 5, 1, 2), (NEW_A, 5, 3, 4), (NEW_A, 5, 5, 6), (), (), (), ())
        self.assertIs(accepts(("most", text, ("shake", "a", 0), 0), ((A, 5, 1, 2), (), ())), True)
        self.assertIs(accepts(("most", text, ("shake", "a", 0), 0), ((NEW_A, 5, 1, 2), (), ())), True)
        self.assertIs(accepts(("most", text, ("shake", "a", 0), -1), ((A, 5, 1, 2), (), ())), False)
        self.assertIs(accepts(("most", text, ("shake", "a", 1), 5), ((A, 5, 1, 2), (), ())), False)
        for step in (1, 5, EDGE):
            self.assertIs(accepts(("most", text, ("shake", "a", step), 5), both), True)
            self.assertIs(accepts(("most", text, ("shake", "a", step), 4), both), False)
        # A bid below 1 comes to the step at most; the node () where it would come further has unlike answers.
        text = "seats a b\nif b < 5: keep\nif a < 5: keep\nsell a at 5"
        rest = (B, 5, (A, 5, (NEW_A, 5, (), ()), (NEW_A, 5, (), ())), ())
        for step in (1, 7, EDGE):
            for top, good in ((step + 1, True), (step, False)):
                for far in ((A, 1, rest, (NEW_A, top, (), rest)), (NEW_A, 1, rest, (A, top, (), rest))):
                    self.assertIs(accepts(("most", text, ("shake", "a", step), 5), flat(far)), good)


class Limits(unittest.TestCase):
    def test_amounts_just_met_and_just_missed(self):
        both = ((A, 5, 1, 2), (NEW_A, 5, 3, 4), (NEW_A, 5, 5, 6), (), (), (), ())
        sold = "seats a\nif a < 5: keep\nsell a at 3"
        for claim, tree, top in (
            (("most", sold, ("lie", "a")), both, 1), (("most", sold, ("ring", ("a",))), both, 1),
            (("most", sold, ("shake", "a", 2)), both, 3), (("most", sold, ("charge",)), ((A, 5, 1, 2), (), ()), 0),
            (("most", sold, ("waste",)), ((A, 5, 1, 2), (), ()), 4),
            (("most", sold, ("envy",)), ((A, 5, 1, 2), (), ()), 0), (("most", ONE, ("charge",)), ((),), 3),
            (("lead", ONE, "seats a\nkeep"), ((),), 3),
            (("lead", "seats a\nkeep", ONE), ((),), -3), (("lead", ONE, sold), ((A, 5, 1, 2), (), ()), 3),
            (("lead", sold, ONE), ((A, 5, 1, 2), (), ()), 0),
        ):
            for limit, good in ((top, True), (top + 1, True), (10 ** 39, True), (top - 1, False), (-(10 ** 39), False)):
                self.assertIs(accepts((*claim, limit), tree), good, (claim, limit))

    def test_no_amount_is_enough_without_a_bound(self):
        claim = ("most", "seats a\nkeep", ("waste",))
        self.assertIs(accepts((*claim, 10 ** 39), ((),)), False)
        self.assertIs(accepts((*claim, 10 ** 39), ((A, EDGE, 1, 2), (), ())), False)
        self.assertIs(accepts(("lead", "seats a\nsell a at a", "seats a\nkeep", 10 ** 39), ((),)), False)
        self.assertIs(accepts(("lead", "seats a\nkeep", "seats a\nsell a at a", 0), ((),)), True)

    def test_numbers_that_are_very_far_off(self):
        far = 10 ** 300
        self.assertIs(accepts(("most", "seats a\nkeep", ("waste",), far), ((),)), False)
        self.assertIs(accepts(("lead", "seats a\nsell a at a", "seats a\nkeep", far), ((),)), False)
        moved = (NEW_A, B, (), ())
        rest = (A, B, moved, moved)
        for head in ((A, far, (), rest), (A, far, rest, ()), (far, NEW_A, rest, ()), (-far, A, rest, ())):
            self.assertIs(accepts(CLAIM, flat(head)), False)
        self.assertIs(accepts(CLAIM, flat((A, -far, rest, ()))), True)

    def test_the_same_outcomes(self):
        for one, other, good in (
            ("sell a at a", "sell a at a", True), ("sell a at a", "sell a at b", False), ("keep", "keep", True),
            ("sell a at 3", "sell b at 3", False), ("keep", "sell a at 0", False), ("sell a at 0", "keep", False),
            ("sell a at 3", "sell a at 4", False), ("sell a at 3", "sell a at 3", True),
        ):
            self.assertIs(accepts(("same", "seats a b\n" + one, "seats a b\n" + other), ((),)), good)
        # Equal bids where both rules take different ones.
        one = "seats a b\nif a < b: keep\nif b < a: keep\nsell a at a"
        other = one.replace("at a", "at b")
        tree = ((A, B, 1, 2), (B, A, 3, 4), (), (), ())
        self.assertIs(accepts(("same", one, other), tree), True)
        self.assertIs(accepts(("same", one, other.replace("b < a: keep", "b < a: sell a at b")), tree), False)

    def test_one_node_that_does_not_hold_is_enough(self):
        text = "seats a\nif a < 5: keep\nif a < 7: sell a at 9\nsell a at 5"
        tree = ((A, 5, 1, 2), (A, 7, 3, 4), (), (), ())
        self.assertIs(accepts(("most", text, ("charge",), 4), tree), True)
        self.assertIs(accepts(("most", text, ("charge",), 3), tree), False)


class Seats(unittest.TestCase):
    def test_four_seats_and_rings_of_three(self):
        text = "seats a b c d\nif a < 2: sell d at 1\nif d < b: sell a at 1\nkeep"
        rule = Rule.read(text)
        bounded = 0
        for question in every_question("abcd", (0, 7, EDGE)):
            sides = ("bid",) if len(question) == 1 else ("bid", "moved")
            tree = flat(self.asking(sides, question[0] in ("envy", "waste")))
            top = greatest(rule, question)
            bounded += top is not None
            self.assertIs(accepts(("most", text, question, 10 ** 39 if top is None else top), tree), top is not None)
            self.assertIs(accepts(("most", text, question, 0 if top is None else top - 1), tree), False)
        self.assertGreater(bounded, 20)

    def asking(self, sides, ranks):
        """Nodes that ask all answers for these sides."""
        if not sides:
            return self.ranking(list(itertools.combinations("abcd", 2)) if ranks else [])
        rest = self.asking(sides[1:], ranks)
        a, b, d = [(sides[0], seat) for seat in "abd"]
        return (a, 2, (d, b, rest, rest), rest)

    def ranking(self, pairs):
        """Nodes that compare each two bids."""
        if not pairs:
            return ()
        rest = self.ranking(pairs[1:])
        return (("bid", pairs[0][0]), ("bid", pairs[0][1]), rest, rest)

    def test_one_seat(self):
        for question, top in ((("lie", "a"), 0), (("ring", ("a",)), 0), (("seller", "a"), 0), (("shake", "a", EDGE), 0),
                              (("charge",), 3), (("envy",), 0), (("waste",), 0)):
            self.assertIs(accepts(("most", ONE, question, top), ((),)), True, question)
            self.assertIs(accepts(("most", ONE, question, top - 1), ((),)), False, question)


class Deep(unittest.TestCase):
    def test_many_nodes_one_below_another(self):
        nested = ()
        for k in range(499):
            nested = (A, 600 - k, (), nested) if k % 2 else (A, k, nested, ())
        chain = flat(nested)
        self.assertEqual(len(chain), 999)
        self.assertIs(accepts(("most", ONE, ("charge",), 3), chain), True)
        self.assertIs(accepts(("most", ONE, ("charge",), 2), chain), False)


class ByChance(unittest.TestCase):
    def claim(self, dice):
        """Some claim, with bids that are many enough to tell whether trees are right."""
        many = dice.choice((1, 1, 2, 2, 2, 3))
        numbers = (0, 1, 2, 3) if many < 3 else (0, 1, 2)
        text = small_text(dice, many, numbers, 3, 3)
        kind = dice.choice(("most", "most", "most", "lead", "same"))
        width = 0
        if kind == "most":
            question = dice.choice([q for q in every_question(seats_of(text), (0, 1, 2)) if len(movers(q)) + many < 5])
            width = len(movers(question))
            claim = (kind, text, question, dice.randint(-1, 3))
        elif kind == "lead":
            claim = (kind, text, small_text(dice, many, numbers, 2, 2), dice.randint(-4, 3))
        else:
            claim = (kind, text, text if dice.random() < 0.6 else small_text(dice, many, numbers, 1, 1))
        return claim, range({1: 14, 2: 13, 3: 12, 4: 10}[many + width])

    def test_as_a_second_checker_tells_case_by_case(self):
        dice = random.Random(5)
        counts = {True: 0, False: 0}
        for _ in range(60):
            claim, levels = self.claim(dice)
            found = all_cases(claim, levels)
            trees = [written_tree(dice, found, range(-1, 5), waste) for waste in (0.0, 0.3)]
            marks = list(found[0][0]) + [0, 2, -1, NEW_A, ("bid", "zz"), True]
            trees += [spoiled(dice, tree, marks) for tree in trees for _ in range(6)]
            for tree in trees:
                good = second_check(tree, found)
                self.assertIs(accepts(claim, tree), good, (claim, tree))
                counts[good] += 1
        self.assertGreater(min(counts.values()), 100)


if __name__ == "__main__":
    unittest.main()
