"""Rules of a sale: how they are made, read, changed, and what they give for bids."""

from salebids.errors import InvalidBids, InvalidChange, InvalidLines, InvalidRows, InvalidSeats, InvalidText
from salebids.errors import UnknownName
from salebids.limits import MOST_LINES, MOST_ROWS, MOST_SEATS
from salebids.written import is_integer, is_name, step_of, term_of


class Rule:
    """A rule of a sale; it never changes."""

    def __init__(self, seats, lines, rows):
        check_seats(seats)
        check_lines(lines, seats)
        terms = read_terms(lines, seats)
        steps = read_steps(rows, seats, names_of(seats, lines))
        self.passed = (seats, lines, rows)
        self.terms = terms
        self.steps = steps
        self.text = text_of(seats, lines, rows)

    @classmethod
    def read(cls, text):
        """The rule with this text."""
        if not isinstance(text, str):
            raise InvalidText(text)
        first, *rest = text.split("\n")
        word, *seats = first.split(" ")
        if word != "seats":
            raise InvalidText(text)
        lines = lines_at_head(rest)
        try:
            return cls(tuple(seats), lines, tuple(rest[len(lines):]))
        except (InvalidSeats, InvalidLines, InvalidRows):
            raise InvalidText(text) from None

    @property
    def seats(self):
        """The names of the seats, in order."""
        return self.passed[0]

    @property
    def lines(self):
        """The pairs (name, term) of the lines, in order."""
        return self.passed[1]

    @property
    def rows(self):
        """The rows as they are written, in order."""
        return self.passed[2]

    def __getitem__(self, at):
        if isinstance(at, str):
            for name, term in self.lines:
                if name == at:
                    return term
        raise UnknownName(at)

    def __iter__(self):
        raise TypeError("a rule is not iterated over")

    def __len__(self):
        return len(self.rows)

    def __str__(self):
        return str(self.text)

    def __eq__(self, other):
        return isinstance(other, Rule) and self.text == other.text

    def value(self, name, bids):
        """The value of a seat or a line for bids."""
        if not isinstance(name, str) or name not in names_of(self.seats, self.lines):
            raise UnknownName(name)
        check_bids(bids, self.seats)
        return self.worths(bids)[name]

    def outcome(self, bids):
        """None if nothing is sold for bids, otherwise the pair of the seat that gets the thing and the price."""
        check_bids(bids, self.seats)
        worths = self.worths(bids)
        reached = [done for condition, done in self.steps if holds(condition, worths)]
        return sale(reached[0], self.seats, bids, worths)

    def changed(self, change):
        """The rule with this change."""
        if not isinstance(change, tuple) or len(change) != 3 or not isinstance(change[0], str):
            raise InvalidChange(change)
        kind, place, text = change
        lines = self.lines
        rows = self.rows
        if kind == "line" and isinstance(place, str) and place in names_of((), lines):
            lines = tuple([(name, text if name == place else term) for name, term in lines])
        elif kind == "row" and is_integer(place) and 0 <= place < len(rows):
            rows = rows[:place] + (text,) + rows[place + 1:]
        else:
            raise InvalidChange(change)
        try:
            return Rule(self.seats, lines, rows)
        except (InvalidLines, InvalidRows):
            raise InvalidChange(change) from None

    def worths(self, bids):
        """The values of all seats and lines, by their names, for bids that are right."""
        found = dict(zip(self.seats, bids))
        for name, term in zip(names_of((), self.lines), self.terms):
            found[name] = term_worth(term, found)
        return found


def check_seats(seats):
    """Raises InvalidSeats for what is not the seats of a rule."""
    if not isinstance(seats, tuple) or not seats:
        raise InvalidSeats(None)
    for at, seat in enumerate(seats):
        if at == MOST_SEATS or not is_name(seat) or seat in seats[:at]:
            raise InvalidSeats(at)


def check_lines(lines, seats):
    """Raises InvalidLines for what is not the lines of a rule, whatever is written in the terms."""
    if not isinstance(lines, tuple):
        raise InvalidLines(None)
    for at, line in enumerate(lines):
        if at == MOST_LINES or not is_line(line) or line[0] in names_of(seats, lines[:at]):
            raise InvalidLines(at)


def check_bids(bids, seats):
    """Raises InvalidBids for what is not bids of these seats."""
    if not isinstance(bids, tuple) or len(bids) != len(seats):
        raise InvalidBids(None)
    for at, bid in enumerate(bids):
        if not is_integer(bid) or bid < 0:
            raise InvalidBids(at)


def is_line(value):
    """Whether a value is a pair of a name and a string."""
    return isinstance(value, tuple) and len(value) == 2 and is_name(value[0]) and isinstance(value[1], str)


def names_of(seats, lines):
    """The list of the names of these seats and lines."""
    return list(seats) + [line[0] for line in lines]


def read_terms(lines, seats):
    """The tuple of the terms of lines, each read over the seats and the lines above it."""
    terms = []
    for at, line in enumerate(lines):
        term = term_of(line[1], names_of(seats, lines[:at]))
        if term is None:
            raise InvalidLines(at)
        terms.append(term)
    return tuple(terms)


def read_steps(rows, seats, names):
    """The tuple of the rows, each read as the pair of its condition and what is done."""
    if not isinstance(rows, tuple) or not rows:
        raise InvalidRows(None)
    steps = []
    for at, row in enumerate(rows):
        step = step_of(row, seats, names, at == len(rows) - 1)
        if at == MOST_ROWS or step is None:
            raise InvalidRows(at)
        steps.append(step)
    return tuple(steps)


def lines_at_head(rows):
    """The tuple of pairs (name, term) with which the rows of a text begin."""
    lines = []
    for row in rows:
        name, mark, term = row.partition(" = ")
        if mark == "":
            break
        lines.append((name, term))
    return tuple(lines)


def text_of(seats, lines, rows):
    """The text of the rule with these seats, lines and rows."""
    head = ["seats " + " ".join(seats)]
    return "\n".join(head + [f"{name} = {term}" for name, term in lines] + list(rows))


def part_worth(part, worths):
    """The value of a part that is read."""
    return part if is_integer(part) else worths[part]


def term_worth(term, worths):
    """The value of a term that is read."""
    order, place, parts = term
    ascending = sorted([part_worth(part, worths) for part in parts])
    return ascending[-place] if order == "high" else ascending[place - 1]


def holds(condition, worths):
    """Whether a condition that is read holds; the last row has none, and is always reached."""
    if condition is None:
        return True
    left, sign, right = condition
    if sign == "<":
        return part_worth(left, worths) < part_worth(right, worths)
    return part_worth(left, worths) <= part_worth(right, worths)


def standing(seats, bids):
    """The seats with greater bids first, equal ones in their order."""
    places = sorted(range(len(seats)), key=lambda at: (-bids[at], at))
    return [seats[at] for at in places]


def sale(done, seats, bids, worths):
    """The outcome of what is done in a row."""
    if done[0] == "keep":
        return None
    who = standing(seats, bids)[done[1] - 1] if is_integer(done[1]) else done[1]
    return who, part_worth(done[2], worths)
