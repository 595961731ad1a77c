"""Books: rules under names, wishes, errors and their order, and taking back."""

import random
import unittest

from salebids.asking import greatest
from salebids.books import Book
from salebids.compare import lead, same
from salebids.errors import BadName, BadValue, Broken, InUse, InvalidIndex, InvalidName, InvalidWish, NoAnswer
from salebids.errors import NotARule, NothingToUndo, UnknownName
from salebids.rules import Rule
from tests.reckoning import every_question, small_text
from tests.samples import Agrees, Refuses, caught, first, odd_values, second

LOW = "seats a b\nnext = low 1 a b\nsell 1 at next"
LIE = ("most", "now", ("lie", "a"), 0)


def low():
    return Rule.read(LOW)


def sample():
    """The book of the interface."""
    book = Book()
    book["now"] = low()
    book["old"] = first()
    book.wish(LIE)
    book.wish(("lead", "now", "old", 4))
    return book


def seen(book):
    """All that a book tells of its condition."""
    return book.names, [book[name] for name in book.names], book.wishes, book.changes, len(book)


def put(book, name, rule):
    book[name] = rule


def taken(book, name):
    return book[name]


def holding(wish, rules):
    """Whether a wish holds, by the functions that tests of their own look after."""
    one = rules[wish[1]]
    if wish[0] == "most":
        if wish[2] not in every_question(one.seats, wish[2][2:]):
            return False
        top = greatest(one, wish[2])
        return top is not None and top <= wish[3]
    other = rules[wish[2]]
    if one.seats != other.seats:
        return False
    if wish[0] == "same":
        return same(one, other)
    top = lead(one, other)
    return top is not None and top <= wish[3]


class Example(unittest.TestCase):
    def test_the_examples_of_the_interface(self):
        book = sample()
        self.assertEqual([book.names, len(book.wishes), book.changes, "old" in book], [("now", "old"), 2, 4, True])
        self.assertEqual(caught(Broken, book.wish, ("most", "old", ("lie", "a"), 0)).index, 2)

    def test_at_first_empty(self):
        book = Book()
        self.assertEqual(seen(book), ((), [], (), 0, 0))
        self.assertNotIn("now", book)

    def test_methods_return_none(self):
        book = Book()
        self.assertIsNone(book.__setitem__("now", low()))
        self.assertIsNone(book.wish(LIE))
        self.assertIsNone(book.lift(0))
        self.assertIsNone(book.remove("now"))
        self.assertIsNone(book.undo())

    def test_parameters_by_name(self):
        book = sample()
        book.wish(wish=("same", "now", "now"))
        book.lift(index=2)
        book["more"] = low()
        book.remove(name="more")
        self.assertEqual(book.tried(action=len), 2)
        self.assertEqual(book.changes, 8)

    def test_kinds_of_values(self):
        book = sample()
        for value in (book.names, book.wishes):
            self.assertIs(value.__class__, tuple)
        self.assertIs(book.changes.__class__, int)
        self.assertIs("now" in book, True)
        self.assertIs("no" in book, False)
        for name in ("names", "wishes", "changes"):
            self.assertRaises(AttributeError, setattr, book, name, ())


class Names(unittest.TestCase):
    def test_ascending(self):
        book = Book()
        for name in ("b", "a10", "z", "a", "a2", "ba"):
            book[name] = low()
        self.assertEqual(book.names, ("a", "a10", "a2", "b", "ba", "z"))

    def test_in_the_place_of_another_one(self):
        book = sample()
        self.assertEqual(book["old"], first())
        book["old"] = low()
        self.assertEqual(book["old"], low())
        self.assertEqual(seen(book)[2:], (sample().wishes, 5, 2))

    def test_names_at_their_edges(self):
        book = Book()
        for name in ("a", "z9", "abcdefgh", "if", "seats"):
            put(book, name, low())
            self.assertIn(name, book)
        for name in ("abcdefghi", "9a", "A", "a_", "a b", "a\n", "\na", "", " a", "a ", ("a",), ["a"], b"a", 1, None):
            before = seen(book)
            error = caught(InvalidName, put, book, name, low())
            self.assertIs(error.given, name)
            self.assertEqual(seen(book), before)

    def test_any_value_as_a_name(self):
        book = sample()
        before = seen(book)
        for value in odd_values():
            self.assertIs(caught(InvalidName, put, book, value, low()).given, value)
            self.assertIs(caught(UnknownName, taken, book, value).given, value)
            self.assertIs(caught(UnknownName, book.remove, value).given, value)
            self.assertIs(value in book, False)
        self.assertEqual(seen(book), before)

    def test_names_of_nothing(self):
        book = sample()
        for name in ("no", "nows", "no w", "top", "a"):
            self.assertEqual(caught(UnknownName, taken, book, name).given, name)
            self.assertEqual(caught(UnknownName, book.remove, name).given, name)
            self.assertNotIn(name, book)

    def test_what_is_no_rule(self):
        book = sample()
        before = seen(book)
        for value in odd_values() + [LOW, (), book]:
            if value.__class__ is not Rule:
                self.assertIs(caught(NotARule, put, book, "more", value).given, value)
                self.assertIs(caught(NotARule, put, book, "now", value).given, value)
        self.assertEqual(seen(book), before)

    def test_the_name_is_looked_at_ahead_of_the_rule(self):
        self.assertEqual(caught(InvalidName, put, Book(), "A", None).given, "A")

    def test_what_stands_there_is_what_was_put(self):
        rule = second()
        book = Book()
        book["x"] = rule
        book["y"] = rule
        self.assertIs(book["x"], rule)
        self.assertEqual(len(book), 2)


class Remove(unittest.TestCase):
    def test_it_is_taken_away(self):
        book = sample()
        book["more"] = low()
        book.remove("more")
        self.assertEqual(book.names, ("now", "old"))
        self.assertEqual(book.changes, 6)
        self.assertNotIn("more", book)

    def test_in_use_with_the_first_wish(self):
        book = sample()
        before = seen(book)
        self.assertEqual(caught(InUse, book.remove, "now").index, 0)
        self.assertEqual(caught(InUse, book.remove, "old").index, 1)
        self.assertEqual(seen(book), before)
        book.lift(0)
        self.assertEqual(caught(InUse, book.remove, "now").index, 0)
        self.assertEqual(caught(InUse, book.remove, "old").index, 0)
        book.lift(0)
        book.remove("now")
        book.remove("old")
        self.assertEqual(seen(book), ((), [], (), 8, 0))

    def test_names_within_a_question_are_seats(self):
        book = Book()
        book["x"] = low()
        book["a"] = low()
        book["b"] = low()
        book.wish(("most", "x", ("lie", "a"), 0))
        book.wish(("most", "x", ("ring", ("b",)), 0))
        book.remove("a")
        book.remove("b")
        self.assertEqual(caught(InUse, book.remove, "x").index, 0)

    def test_each_wish_uses_its_names(self):
        book = Book()
        for name in ("x", "y", "z"):
            book[name] = low()
        book.wish(("same", "y", "z"))
        book.wish(("lead", "z", "x", 0))
        self.assertEqual([caught(InUse, book.remove, name).index for name in ("x", "y", "z")], [1, 0, 0])


class Wishes(unittest.TestCase):
    def test_behind_the_others(self):
        book = sample()
        book.wish(("same", "now", "now"))
        book.wish(LIE)
        self.assertEqual(book.wishes, (LIE, ("lead", "now", "old", 4), ("same", "now", "now"), LIE))
        self.assertEqual(book.changes, 6)

    def test_limits_just_met_and_just_missed(self):
        book = sample()
        book.wish(("most", "old", ("waste",), 4))
        book.wish(("most", "now", ("shake", "b", 3), 3))
        book.wish(("lead", "now", "old", 10 ** 39))
        before = seen(book)
        for wish in (("most", "old", ("waste",), 3), ("most", "now", ("shake", "b", 3), 2), ("lead", "now", "old", 3)):
            self.assertEqual(caught(Broken, book.wish, wish).index, 5)
        self.assertEqual(seen(book), before)

    def test_beyond_all_bounds(self):
        book = sample()
        for wish in (("most", "now", ("ring", ("a", "b")), 10 ** 39), ("lead", "old", "now", 10 ** 39)):
            self.assertEqual(caught(Broken, book.wish, wish).index, 2)

    def test_a_lead_below_0(self):
        book = Book()
        book["x"] = Rule.read("seats a\nsell a at 1")
        book["y"] = Rule.read("seats a\nsell a at 2")
        book.wish(("lead", "x", "y", 0))
        self.assertEqual(caught(Broken, book.wish, ("lead", "y", "x", 0)).index, 1)
        book.wish(("lead", "y", "x", 1))

    def test_the_same_outcomes(self):
        book = sample()
        book["too"] = Rule.read("seats a b\nx = high 2 b a\nsell 1 at x")
        book.wish(("same", "now", "too"))
        book.wish(("same", "too", "now"))
        self.assertEqual(caught(Broken, book.wish, ("same", "now", "old")).index, 4)

    def test_other_seats(self):
        book = sample()
        book["three"] = second()
        book["turned"] = Rule.read("seats b a\nnext = low 1 a b\nsell 1 at next")
        before = seen(book)
        for other in ("three", "turned"):
            for wish in (("lead", "now", other, 10 ** 39), ("lead", other, "now", 10 ** 39), ("same", "now", other)):
                self.assertEqual(caught(Broken, book.wish, wish).index, 2)
        self.assertEqual(seen(book), before)

    def test_a_question_about_some_rule_but_not_about_this_one(self):
        book = sample()
        book["three"] = second()
        before = seen(book)
        questions = (
            ("lie", "c"), ("lie", "top"), ("ring", ("b", "a")), ("ring", ("a", "c")), ("ring", ("x", "y", "z")),
            ("names", "a", "c"), ("names", "c", "a"), ("seller", "next"), ("shake", "c", 0), ("lie", "lie"),
            ("ring", ("a", "ring")), ("ring", ("ring", "a")), ("names", "names", "a"), ("shake", "shake", 10 ** 12),
        )
        for question in questions:
            self.assertEqual(caught(Broken, book.wish, ("most", "now", question, 10 ** 39)).index, 2)
        self.assertEqual(seen(book), before)
        book.wish(("most", "three", ("shake", "c", 0), 10 ** 39))

    def test_what_is_no_wish(self):
        book = sample()
        before = seen(book)
        for value in odd_values() + wrong_wishes():
            self.assertIs(caught(InvalidWish, book.wish, value).given, value)
        self.assertEqual(seen(book), before)

    def test_the_wish_is_looked_at_ahead_of_its_names(self):
        book = Book()
        for wish in (("most", "no", ("lie",), 0), ("lead", "no", "too", -1), ("same", "no", "A")):
            self.assertIs(caught(InvalidWish, book.wish, wish).given, wish)

    def test_unknown_names_of_a_and_then_of_b(self):
        book = sample()
        before = seen(book)
        wishes = (
            (("most", "no", ("waste",), 0), "no"), (("lead", "no", "too", 0), "no"), (("lead", "now", "too", 0), "too"),
            (("lead", "no", "now", 0), "no"), (("same", "no", "too"), "no"), (("same", "old", "too"), "too"),
            (("same", "too", "too"), "too"), (("most", "a", ("lie", "zz"), 0), "a"),
        )
        for wish, name in wishes:
            self.assertEqual(caught(UnknownName, book.wish, wish).given, name)
        self.assertEqual(seen(book), before)


def wrong_wishes():
    """Values that are nearly wishes."""
    found = [
        (), ("most",), ("most", "now"), ("most", "now", ("waste",)), ("most", "now", ("waste",), 0, 0),
        ("lead", "now", "old"), ("lead", "now", "old", 0, 0), ("same", "now"), ("same", "now", "old", 0),
        ("more", "now", ("waste",), 0), ("parts", "now", "old"), ("passes", "now", "old", 0), ("", "now", "old"),
        ["most", "now", ("waste",), 0], ["same", "now", "old"], "same", ("Same", "now", "old"), (b"same", "now", "old"),
        ("most", "now", ["waste"], 0), ("most", ("waste",), "now", 0), ("most", "now", "old", 0),
        ("lead", "now", ("waste",), 0), ("same", low(), low()), ("same", "now", LOW), (("same", "now", "old"),),
    ]
    for limit in (-1, True, False, None, "0", (0,), -(10 ** 39), b"0", [0], Refuses(), Agrees()):
        found += [("most", "now", ("waste",), limit), ("lead", "now", "old", limit)]
    for name in ("A", "", "abcdefghi", "no w", b"now", None, 0, ("now",), ["now"], low(), Refuses(), Agrees()):
        found += [("most", name, ("waste",), 0), ("lead", name, "old", 0), ("lead", "now", name, 0)]
        found += [("same", name, "old"), ("same", "now", name), (name, "now", "old"), (name, "now", "old", 0)]
    return found + [("most", "now", question, 0) for question in wrong_questions()]


def wrong_questions():
    """Values that are no questions about any rule."""
    found = [
        (), ("lie",), ("lie", "a", "b"), ("lie", ("a",)), ("ring", ()), ("ring", "a"), ("ring", ("a", "a")),
        ("ring", ("a", "b", "a")), ("ring", ("a", "b", "c", "d")), ("ring", ["a"]), ("ring", ("a",), ("b",)), ("ring",),
        ("ring", (("a",),)), ("names", "a"), ("names", "a", "a"), ("names", "a", "b", "c"), ("names", ("a", "b")),
        ("seller",), ("seller", "a", 0), ("shake", "a"), ("shake", "a", -1), ("shake", "a", 10 ** 12 + 1),
        ("shake", "a", True), ("shake", "a", "1"), ("shake", 1, "a"), ("shake", "a", None), ("shake", "a", 1, 1),
        ("shake", "a", "b"), ("charge", "a"), ("envy", 0), ("waste", ()), ("waste", None), ("wastes",), ("most",),
        ["lie", "a"], "waste", None, 0, (("lie", "a"),), ("lie", "abcdefghi"), ("ring", ("a", "")), {"waste": 1},
    ]
    for name in ("A", "", "9", "a b", 1, None, b"a", ["a"], {}, low(), Refuses(), Agrees()):
        found += [("lie", name), ("seller", name), ("shake", name, 1), ("names", name, "a"), ("names", "a", name)]
        found += [("ring", (name,)), ("ring", ("a", name)), ("ring", (name, "a")), (name, "a"), (name,)]
    return found


class Lift(unittest.TestCase):
    def test_a_wish_is_taken_away(self):
        book = sample()
        book.wish(("same", "now", "now"))
        book.lift(1)
        self.assertEqual(book.wishes, (LIE, ("same", "now", "now")))
        book.lift(0)
        self.assertEqual(book.wishes, (("same", "now", "now"),))
        book.lift(0)
        self.assertEqual((book.wishes, book.changes), ((), 8))

    def test_what_is_no_index_of_a_wish(self):
        book = sample()
        before = seen(book)
        for value in odd_values() + [2, -2, 3, "0", (0,), [0]]:
            if value.__class__ is not int or value not in (0, 1):
                self.assertIs(caught(InvalidIndex, book.lift, value).given, value)
        self.assertEqual(seen(book), before)
        self.assertEqual(caught(InvalidIndex, Book().lift, 0).given, 0)

    def test_what_was_wished_may_then_be_broken(self):
        book = sample()
        self.assertEqual(caught(Broken, put, book, "now", first()).index, 0)
        book.lift(0)
        book["now"] = first()
        self.assertEqual(book["now"], first())


class PutBreaks(unittest.TestCase):
    def test_the_first_wish_that_would_not_hold(self):
        book = Book()
        book["x"] = low()
        book["y"] = low()
        book.wish(("most", "y", ("lie", "a"), 0))
        book.wish(("most", "x", ("charge",), 0))
        book.wish(("same", "y", "x"))
        book.wish(("most", "x", ("lie", "a"), 0))
        book.wish(("lead", "y", "x", 0))
        before = seen(book)
        dear = Rule.read("seats a b\nnext = high 1 a b\nsell 2 at next")
        self.assertEqual(caught(Broken, put, book, "x", dear).index, 1)
        self.assertEqual(caught(Broken, put, book, "x", first()).index, 2)
        self.assertEqual(caught(Broken, put, book, "y", first()).index, 0)
        self.assertEqual(caught(Broken, put, book, "x", second()).index, 1)
        self.assertEqual(caught(Broken, put, book, "x", Rule.read("seats a b c\nsell 1 at 0")).index, 2)
        self.assertEqual(seen(book), before)
        book["x"] = Rule.read("seats a b\nx = high 2 a b\nsell 1 at x")
        self.assertEqual(book.changes, before[3] + 1)

    def test_the_second_name_counts_too(self):
        book = sample()
        free = Rule.read("seats a b\nkeep")
        self.assertEqual(caught(Broken, put, book, "old", free).index, 1)
        book["old"] = Rule.read("seats a b\ntop = high 1 a b\nif top < 4: keep\nsell 1 at top")

    def test_other_seats_and_other_questions(self):
        book = sample()
        before = seen(book)
        turned = Rule.read("seats b a\nnext = low 1 a b\nsell 1 at next")
        self.assertEqual(caught(Broken, put, book, "now", turned).index, 1)
        self.assertEqual(caught(Broken, put, book, "old", turned).index, 1)
        one = Rule.read("seats b\nsell b at 0")
        self.assertEqual(caught(Broken, put, book, "now", one).index, 0)
        self.assertEqual(seen(book), before)

    def test_a_name_in_both_places(self):
        book = Book()
        book["x"] = low()
        book.wish(("same", "x", "x"))
        book.wish(("lead", "x", "x", 0))
        book["x"] = second()
        self.assertEqual(caught(InUse, book.remove, "x").index, 0)

    def test_the_same_rule_again_is_a_change(self):
        book = sample()
        book["now"] = low()
        self.assertEqual(book.changes, 5)


class Undo(unittest.TestCase):
    def test_nothing_to_undo(self):
        book = Book()
        caught(NothingToUndo, book.undo)
        book["x"] = low()
        book.undo()
        caught(NothingToUndo, book.undo)
        self.assertEqual(seen(book), seen(Book()))

    def test_back_through_all_kinds_of_changes(self):
        book = Book()
        steps = (
            lambda: put(book, "now", low()), lambda: put(book, "old", first()), lambda: book.wish(LIE),
            lambda: book.wish(("lead", "now", "old", 4)), lambda: put(book, "old", low()), lambda: book.lift(1),
            lambda: book.remove("old"), lambda: put(book, "now", low()), lambda: book.wish(LIE), lambda: book.lift(0),
        )
        conditions = [seen(book)]
        for at, step in enumerate(steps):
            step()
            self.assertEqual(book.changes, at + 1)
            conditions.append(seen(book))
        for condition in reversed(conditions[:-1]):
            book.undo()
            self.assertEqual(seen(book), condition)
        caught(NothingToUndo, book.undo)

    def test_what_is_taken_back_is_gone(self):
        book = sample()
        book.undo()
        book.undo()
        self.assertEqual((book.wishes, book.changes), ((), 2))
        book.remove("old")
        self.assertEqual(book.changes, 3)
        book.undo()
        book.undo()
        self.assertEqual((book.names, book.changes), (("now",), 1))

    def test_errors_are_no_changes(self):
        book = sample()
        before = seen(book)
        caught(InUse, book.remove, "now")
        caught(Broken, put, book, "now", first())
        caught(Broken, book.wish, ("same", "now", "old"))
        caught(UnknownName, book.wish, ("same", "now", "no"))
        caught(InvalidWish, book.wish, ())
        caught(InvalidIndex, book.lift, 2)
        self.assertEqual(seen(book), before)
        book.undo()
        self.assertEqual(book.wishes, (LIE,))

    def test_many_changes(self):
        book = Book()
        rule = low()
        for _ in range(20000):
            book["x"] = rule
        self.assertEqual(book.changes, 20000)
        for _ in range(20000):
            book.undo()
        self.assertEqual(seen(book), seen(Book()))


class Sameness(unittest.TestCase):
    def test_a_book_is_equal_to_itself_alone(self):
        book, other = Book(), Book()
        self.assertTrue(book == book)
        self.assertFalse(book != book)
        self.assertFalse(book == other)
        self.assertTrue(book != other)
        full, again = sample(), sample()
        self.assertTrue(full == full)
        self.assertFalse(full == again)
        full.undo()
        self.assertTrue(full == full)

    def test_no_book_is_equal_to_a_value_of_another_class(self):
        book = sample()
        for value in odd_values() + [(book,), [book], book.names, book.trial(), low()]:
            self.assertIs(book == value, False)
            self.assertIs(book != value, True)
            if value.__class__ not in (Agrees, Refuses):
                self.assertIs(value == book, False)

    def test_books_are_apart(self):
        book, other = sample(), sample()
        book.lift(1)
        book.remove("old")
        self.assertEqual(seen(other), seen(sample()))

    def test_every_object_is_true(self):
        for value in (Book(), sample(), Book().trial()):
            self.assertIs(bool(value), True)

    def test_bases_of_errors(self):
        for kinds, base in (((InvalidName, InvalidWish, InvalidIndex, NotARule), BadValue), ((UnknownName, InUse), BadName),
                            ((NothingToUndo, Broken), NoAnswer)):
            self.assertEqual([kind.__bases__ for kind in kinds], [(base,)] * len(kinds))

    def test_each_method_is_defined_in_the_class_itself(self):
        names = (
            "__init__", "__setitem__", "__getitem__", "remove", "wish", "lift", "undo", "names", "wishes", "changes",
            "__contains__", "__len__", "trial", "tried",
        )
        self.assertEqual([name for name in names if name not in vars(Book)], [])
        self.assertEqual(Book.__module__, "salebids.books")


class ByChance(unittest.TestCase):
    def test_as_a_list_of_conditions_tells_it(self):
        dice = random.Random(11)
        broken = 0
        for _ in range(12):
            book = Book()
            conditions = [({}, ())]
            for _ in range(60):
                broken += self.step(dice, book, conditions)
                rules, wishes = conditions[-1]
                self.assertEqual(seen(book), (
                    tuple(sorted(rules)), [rules[name] for name in sorted(rules)], wishes, len(conditions) - 1, len(rules)))
                self.assertTrue(all(holding(wish, rules) for wish in wishes))
        self.assertGreater(broken, 20)

    def step(self, dice, book, conditions):
        """Does something with a book and a list of its conditions; returns whether a wish was in the way."""
        rules, wishes = conditions[-1]
        name = dice.choice("xyz")
        kind = dice.choice(("put", "put", "put", "wish", "wish", "wish", "wish", "lift", "undo", "remove"))
        if kind == "put":
            rule = Rule.read(small_text(dice, dice.choice((1, 2, 2, 2)), (0, 1, 2), 2, 2))
            new = {**rules, name: rule}
            bad = [at for at, wish in enumerate(wishes) if not holding(wish, new)]
            if bad:
                self.assertEqual(caught(Broken, put, book, name, rule).index, bad[0])
                return True
            book[name] = rule
            conditions.append((new, wishes))
        elif kind == "wish":
            return self.wish(dice, book, conditions)
        elif kind == "lift" and wishes:
            at = dice.randrange(len(wishes))
            book.lift(at)
            conditions.append((rules, wishes[:at] + wishes[at + 1:]))
        elif kind == "undo" and len(conditions) > 1:
            book.undo()
            conditions.pop()
        elif kind == "remove" and name in rules:
            used = [at for at, wish in enumerate(wishes) if name in (wish[1], wish[2])]
            if used:
                self.assertEqual(caught(InUse, book.remove, name).index, used[0])
            else:
                book.remove(name)
                conditions.append(({other: rules[other] for other in rules if other != name}, wishes))
        return False

    def wish(self, dice, book, conditions):
        rules, wishes = conditions[-1]
        one, other = dice.choice("xyz"), dice.choice("xyz")
        wish = dice.choice((
            ("most", one, dice.choice(every_question("ab", (0, 1, 5))), dice.randint(0, 9)),
            ("lead", one, other, dice.randint(0, 9)), ("same", one, other)))
        unknown = [name for name in (wish[1:2] if wish[0] == "most" else wish[1:3]) if name not in rules]
        if unknown:
            self.assertEqual(caught(UnknownName, book.wish, wish).given, unknown[0])
            return False
        if not holding(wish, rules):
            self.assertEqual(caught(Broken, book.wish, wish).index, len(wishes))
            return True
        book.wish(wish)
        conditions.append((rules, wishes + (wish,)))
        return False


if __name__ == "__main__":
    unittest.main()
