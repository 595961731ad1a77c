"""Trials of books: `with` statements that take back what was done in them if they end with an exception."""

import unittest

from salebids.books import Book
from salebids.errors import Broken, NothingToUndo
from tests.samples import caught, first, second
from tests.test_books import LIE, low, put, sample, seen


class Stop(Exception):
    pass


class Interrupt(BaseException):
    pass


def spoil(book):
    """Changes of all kinds."""
    book["now"] = low()
    book["new"] = second()
    book.wish(("same", "new", "new"))
    book.lift(0)
    book.lift(0)
    book.remove("old")


class Trials(unittest.TestCase):
    def test_as_gives_the_book(self):
        book = sample()
        with book.trial() as held:
            self.assertIs(held, book)
        with book.trial():
            pass
        self.assertEqual(seen(book), seen(sample()))

    def test_without_an_exception_all_stays(self):
        book, other = sample(), sample()
        with book.trial() as held:
            spoil(held)
        spoil(other)
        self.assertEqual(seen(book), seen(other))
        self.assertEqual(book.changes, 10)
        while other.changes:
            other.undo()
            book.undo()
            self.assertEqual(seen(book), seen(other))

    def test_with_an_exception_all_is_as_it_was(self):
        for kind in (Stop, Interrupt, KeyError, SystemExit, KeyboardInterrupt, GeneratorExit, StopIteration):
            book = sample()
            error = kind("why")
            with self.assertRaises(kind) as passed:
                with book.trial() as held:
                    spoil(held)
                    self.assertEqual(held.changes, 10)
                    raise error
            self.assertIs(passed.exception, error)
            self.assertEqual(seen(book), seen(sample()))
            book.undo()
            self.assertEqual(book.wishes, (LIE,))

    def test_errors_of_the_book_are_exceptions_too(self):
        book = sample()
        with self.assertRaises(Broken) as passed:
            with book.trial() as held:
                held["more"] = low()
                held["now"] = first()
        self.assertEqual(passed.exception.index, 0)
        self.assertEqual(seen(book), seen(sample()))

    def test_an_exception_that_is_caught_within_does_not_count(self):
        book = sample()
        with book.trial() as held:
            held["more"] = low()
            caught(Broken, put, held, "now", first())
            try:
                raise Stop()
            except Stop:
                pass
        self.assertEqual((book.names, book.changes), (("more", "now", "old"), 5))

    def test_ends_that_are_no_exceptions(self):
        def returning(book):
            with book.trial():
                book["more"] = low()
                return "end"

        book = sample()
        self.assertEqual(returning(book), "end")
        for _ in range(3):
            with book.trial():
                book["more"] = low()
                break
        for _ in range(2):
            with book.trial():
                book["more"] = low()
                continue
        self.assertEqual(book.changes, 8)

    def test_undo_behind_the_beginning(self):
        book = sample()
        with book.trial():
            book["more"] = low()
            for _ in range(4):
                book.undo()
            self.assertEqual((book.names, book.changes), (("now",), 1))
        self.assertEqual((book.names, book.wishes, book.changes), (("now",), (), 1))

        book = sample()
        with self.assertRaises(Stop):
            with book.trial():
                for _ in range(4):
                    book.undo()
                caught(NothingToUndo, book.undo)
                book["other"] = second()
                raise Stop()
        self.assertEqual(seen(book), seen(sample()))
        for many in (3, 2, 1, 0):
            book.undo()
            self.assertEqual(book.changes, many)
        caught(NothingToUndo, book.undo)

    def test_it_begins_where_the_rows_begin(self):
        book = sample()
        trial = book.trial()
        book["more"] = low()
        before = seen(book)
        with self.assertRaises(Stop):
            with trial:
                spoil(book)
                raise Stop()
        self.assertEqual(seen(book), before)

    def test_one_object_once_more(self):
        book = sample()
        trial = book.trial()
        with trial:
            book["more"] = low()
        before = seen(book)
        with self.assertRaises(Stop):
            with trial as held:
                self.assertIs(held, book)
                spoil(book)
                raise Stop()
        self.assertEqual(seen(book), before)

    def test_other_books_stay_as_they_are(self):
        book, other = sample(), sample()
        with self.assertRaises(Stop):
            with book.trial():
                spoil(book)
                spoil(other)
                raise Stop()
        self.assertEqual(book.changes, 4)
        self.assertEqual(other.changes, 10)

    def test_books_are_equal_to_themselves_all_the_time(self):
        book = sample()
        with book.trial() as held:
            spoil(held)
            self.assertTrue(book == held)
        self.assertTrue(book == held)


class Within(unittest.TestCase):
    def nested(self, one, other, book, inner_fails, outer_fails):
        """Two trials, one within the other, and the condition when the inner one began."""
        try:
            with one:
                book["outer"] = low()
                middle = seen(book)
                try:
                    with other:
                        book["inner"] = low()
                        book.undo()
                        book.undo()
                        book["inner"] = first()
                        if inner_fails:
                            raise Stop()
                except Stop:
                    pass
                behind = seen(book)
                book["last"] = low()
                if outer_fails:
                    raise Stop()
        except Stop:
            pass
        return middle, behind

    def test_trials_within_trials(self):
        for same in (False, True):
            for inner_fails in (False, True):
                for outer_fails in (False, True):
                    book = sample()
                    one = book.trial()
                    other = one if same else book.trial()
                    middle, behind = self.nested(one, other, book, inner_fails, outer_fails)
                    if inner_fails:
                        self.assertEqual(behind, middle)
                    else:
                        self.assertEqual(behind[0], ("inner", "now", "old"))
                    if outer_fails:
                        self.assertEqual(seen(book), seen(sample()))
                    else:
                        self.assertEqual(book.names, tuple(sorted(behind[0] + ("last",))))
                        self.assertEqual(book.changes, behind[3] + 1)

    def test_an_exception_through_both(self):
        for same in (False, True):
            book = sample()
            one = book.trial()
            with self.assertRaises(Stop):
                with one, one if same else book.trial():
                    spoil(book)
                    raise Stop()
            self.assertEqual(seen(book), seen(sample()))

    def test_one_object_many_times(self):
        book = Book()
        trial = book.trial()

        def deeper(left):
            before = seen(book)
            try:
                with trial:
                    book["x" + str(left)] = low()
                    if left:
                        deeper(left - 1)
                    if left % 2:
                        raise Stop()
            except Stop:
                self.assertEqual(seen(book), before)
            else:
                self.assertIn("x" + str(left), book)

        deeper(6)
        self.assertEqual((book.names, book.changes), (("x6",), 1))
        deeper(5)
        self.assertEqual((book.names, book.changes), (("x6",), 1))

    def test_trials_of_two_books(self):
        book, other = sample(), sample()
        with self.assertRaises(Stop):
            with book.trial(), other.trial():
                spoil(book)
                spoil(other)
                raise Stop()
        self.assertEqual(seen(book), seen(other))
        self.assertEqual(book.changes, 4)


class Tried(unittest.TestCase):
    def test_what_the_action_returns(self):
        book = sample()
        for value in (None, 0, "x", [1], book):
            self.assertIs(book.tried(lambda held: value), value)
        self.assertIs(book.tried(lambda held: held), book)
        self.assertEqual(book.changes, 4)

    def test_what_the_action_does_stays(self):
        book, other = sample(), sample()
        self.assertIsNone(book.tried(spoil))
        spoil(other)
        self.assertEqual(seen(book), seen(other))

    def test_an_exception_of_the_action(self):
        book = sample()
        error = Stop()

        def action(held):
            spoil(held)
            raise error

        with self.assertRaises(Stop) as passed:
            book.tried(action)
        self.assertIs(passed.exception, error)
        self.assertEqual(seen(book), seen(sample()))

    def test_within_one_another(self):
        book = sample()

        def inner(held):
            held["inner"] = low()
            raise Stop()

        def outer(held):
            held["outer"] = low()
            self.assertRaises(Stop, held.tried, inner)
            return held.names

        self.assertEqual(book.tried(outer), ("now", "old", "outer"))
        self.assertEqual(book.changes, 5)

    def test_methods_as_actions(self):
        book = sample()
        self.assertIsNone(book.tried(Book.undo))
        self.assertEqual(book.changes, 3)
        self.assertRaises(NothingToUndo, Book().tried, Book.undo)


if __name__ == "__main__":
    unittest.main()
