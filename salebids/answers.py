"""The answers of cases: all that rules ask of the numbers of a case, one after the other.

Each answer is whether one mark is at least another one. Where all answers ahead of it are the same for all cases of a
zone, it asks for the same two marks in all of them; so it is enough to look for the first one that is left open.
"""

from salebids.rules import names_of
from salebids.written import is_integer
from salebids.zones import compared


class Course:
    """The way through the answers of a setting, in one zone, as far as the zone tells them.

    `sold` has the outcomes of the sides that are done with, and `marks` those of the seats and lines of the next one.
    """

    def __init__(self, setting, zone, sold, marks):
        self.setting = setting
        self.zone = zone
        self.sold = sold
        self.marks = marks

    def within(self, zone):
        """The same course in a part of its zone."""
        return Course(self.setting, zone, self.sold, self.marks)

    def left_open(self):
        """The first two marks of which the zone does not tell whether one is at least the other, as an answer asks.

        None if all answers are told; then `sold` has the outcomes of all sides.
        """
        sides = self.setting.sides
        while len(self.sold) < len(sides):
            pair = self.side_open(sides[len(self.sold)][0])
            if pair is not None:
                return pair
            self.marks = {} if len(self.sold) == len(sides) else sides[len(self.sold)][1]
        return None

    def side_open(self, rule):
        """The same for one side alone; if its answers are told, its outcome is put behind the others in `sold`."""
        pair = self.line_open(rule)
        if pair is not None:
            return pair
        for condition, done in rule.steps[:-1]:
            pair = self.asked_by(condition)
            answer = compared(self.zone, pair[0], pair[1])
            if answer is None:
                return pair
            if answer == (condition[1] == "<="):
                return self.done_open(rule, done)
        return self.done_open(rule, rule.steps[-1][1])

    def line_open(self, rule):
        """The same for the lines of a rule alone; the marks of those that are told are put to `marks`."""
        told = len(self.marks) - len(rule.seats)
        for name, term in list(zip(names_of((), rule.lines), rule.terms))[told:]:
            order, place, parts = term
            marks = [self.part_mark(part) for part in parts]
            pair = open_answer(self.zone, marks)
            if pair is not None:
                return pair
            ranked = ranking(self.zone, marks)
            picked = marks[ranked[place - 1 if order == "high" else -place]]
            # A new dict: other courses have the one before it.
            self.marks = {**self.marks, name: picked}
        return None

    def done_open(self, rule, done):
        """The same for what is done in a row."""
        bids = [self.marks[seat] for seat in rule.seats]
        sells = done[0] == "sell"
        if self.setting.ranks or (sells and is_integer(done[1])):
            pair = open_answer(self.zone, bids)
            if pair is not None:
                return pair
        outcome = None
        if sells:
            who = rule.seats[ranking(self.zone, bids)[done[1] - 1]] if is_integer(done[1]) else done[1]
            outcome = (who, self.part_mark(done[2]))
        self.sold = self.sold + (outcome,)
        return None

    def part_mark(self, part):
        """The mark of a part that is an integer, a seat, or a line that is told."""
        return (0, part) if is_integer(part) else self.marks[part]

    def asked_by(self, condition):
        """The two marks of a condition: with the sign <= it holds if the first is at least the second, else if not."""
        left, sign, right = condition
        pair = (self.part_mark(left), self.part_mark(right))
        return pair if sign == "<" else (pair[1], pair[0])


def first_course(setting):
    """The course at the beginning of a setting."""
    return Course(setting, setting.zone, (), setting.sides[0][1])


def open_answer(zone, marks):
    """The first mark, with the first one behind it, of which the zone does not tell whether it is at least that one."""
    for at, left in enumerate(marks):
        for right in marks[at + 1:]:
            if compared(zone, left, right) is None:
                return left, right
    return None


def ranking(zone, marks):
    """The list of the indexes of marks of which nothing is left open, greater ones first, equal ones in order."""
    places = []
    for at, mark in enumerate(marks):
        greater = [other for other in marks[:at] if compared(zone, other, mark)]
        greater += [other for other in marks[at + 1:] if not compared(zone, mark, other)]
        places.append(len(greater))
    return sorted(range(len(marks)), key=lambda index: places[index])
