"""Books: rules under names, with wishes that hold after each change."""

from salebids.asking import exceeds
from salebids.compare import ahead, same
from salebids.errors import Broken, InUse, InvalidIndex, InvalidName, InvalidWish, NotARule, NothingToUndo, UnknownName
from salebids.questions import is_question
from salebids.rules import Rule
from salebids.written import is_integer, is_name


class Page:
    """The condition of a book behind a change, and the page ahead of that change; a page never changes."""

    def __init__(self, rules, wanted, former, many):
        self.rules = rules
        self.wanted = wanted
        self.former = former
        self.many = many


class Kept:
    """The page at which the rows of a trial began, and what is kept for the same trial around it."""

    def __init__(self, page, outer):
        self.page = page
        self.outer = outer


class Trial:
    """For a `with` statement: if its rows end with an exception, the book goes back to where they began."""

    def __init__(self, book):
        self.book = book
        self.kept = None

    def __enter__(self):
        self.kept = Kept(self.book.page, self.kept)
        return self.book

    def __exit__(self, kind, value, trace):
        if kind is not None:
            self.book.page = self.kept.page
        self.kept = self.kept.outer


class Book:
    """Rules under names, and a row of wishes."""

    def __init__(self):
        self.page = Page({}, (), None, 0)
        # No two books have the same first page, so it tells them apart.
        self.first = self.page

    def __setitem__(self, at, worth):
        if not is_name(at):
            raise InvalidName(at)
        if not isinstance(worth, Rule):
            raise NotARule(worth)
        rules = {**self.page.rules, at: worth}
        for index, wish in enumerate(self.page.wanted):
            # Wishes about other rules hold as before.
            if at in names_in(wish) and not is_met(wish, rules):
                raise Broken(index)
        self.turn(rules, self.page.wanted)

    def __getitem__(self, at):
        if not is_under(at, self.page.rules):
            raise UnknownName(at)
        return self.page.rules[at]

    def __iter__(self):
        raise TypeError("a book is not iterated over")

    def __contains__(self, x):
        return is_under(x, self.page.rules)

    def __len__(self):
        return len(self.page.rules)

    def __bool__(self):
        return True

    def __eq__(self, other):
        return isinstance(other, Book) and self.first == other.first

    @property
    def names(self):
        """The names under which rules stand, ascending."""
        return tuple(sorted(list(self.page.rules)))

    @property
    def wishes(self):
        """The wishes, in the order in which they were made."""
        return self.page.wanted

    @property
    def changes(self):
        """How many changes can be taken back."""
        return self.page.many

    def remove(self, name):
        """Takes away the rule under a name."""
        rules = self.page.rules
        if not is_under(name, rules):
            raise UnknownName(name)
        for index, wish in enumerate(self.page.wanted):
            if name in names_in(wish):
                raise InUse(index)
        self.turn({other: rules[other] for other in rules if other != name}, self.page.wanted)

    def wish(self, wish):
        """Puts a wish behind the others."""
        if not is_wish(wish):
            raise InvalidWish(wish)
        rules = self.page.rules
        for name in names_in(wish):
            if name not in rules:
                raise UnknownName(name)
        if not is_met(wish, rules):
            raise Broken(len(self.page.wanted))
        self.turn(rules, self.page.wanted + (wish,))

    def lift(self, index):
        """Takes away the wish with this index."""
        wanted = self.page.wanted
        if not is_integer(index) or not 0 <= index < len(wanted):
            raise InvalidIndex(index)
        self.turn(self.page.rules, wanted[:index] + wanted[index + 1:])

    def undo(self):
        """Takes back the last change that is not taken back yet."""
        if self.page.former is None:
            raise NothingToUndo()
        self.page = self.page.former

    def trial(self):
        """What a `with` statement needs for a trial."""
        return Trial(self)

    def tried(self, action):
        """What a function returns for the book, called within a trial."""
        with self.trial() as book:
            return action(book)

    def turn(self, rules, wanted):
        """Makes a change."""
        self.page = Page(rules, wanted, self.page, self.page.many + 1)


def is_under(value, rules):
    """Whether a value is a name under which a rule stands."""
    return isinstance(value, str) and value in rules


def is_wish(value):
    """Whether a value is a wish about rules under some names."""
    if not isinstance(value, tuple) or len(value) not in (3, 4) or not isinstance(value[0], str):
        return False
    if len(value) == 4 and (not is_integer(value[3]) or value[3] < 0):
        return False
    if not is_name(value[1]):
        return False
    if value[0] == "most":
        return len(value) == 4 and is_some_question(value[2])
    return (value[0], len(value)) in (("lead", 4), ("same", 3)) and is_name(value[2])


def is_some_question(value):
    """Whether a value is a question about some rule, whose seats then are the names in it."""
    if not isinstance(value, tuple):
        return False
    seats = []
    for part in value[1:]:
        inner = part if isinstance(part, tuple) else (part,)
        for name in inner:
            if is_name(name) and name not in seats:
                seats.append(name)
    return is_question(value, seats)


def names_in(wish):
    """The names A and B of a wish."""
    return wish[1:2] if wish[0] == "most" else wish[1:3]


def is_met(wish, rules):
    """Whether a wish holds for the rules under these names."""
    one = rules[wish[1]]
    if wish[0] == "most":
        return is_question(wish[2], one.seats) and not exceeds(one, wish[2], wish[3])
    other = rules[wish[2]]
    if one.seats != other.seats:
        return False
    return same(one, other) if wish[0] == "same" else ahead(one, other, wish[3] + 1) is None
