"""Runs of a rule through zones: a zone is split only where it does not tell yet what the rule does."""

from salebids.rules import names_of
from salebids.written import is_integer
from salebids.zones import compared, halves


class Run:
    """A rule on its way through its rows, in one zone.

    `picks` has the terms of the lines, as high_picks gives them, and `marks` has the marks of the seats, and of the
    lines that are known by now. What is not told by the zone is None.
    """

    def __init__(self, rule, picks, zone, marks, at):
        self.rule = rule
        self.picks = picks
        self.zone = zone
        self.marks = marks
        self.at = at
        self.asked = None
        self.sold = None

    def parted(self):
        """The runs that go on from here in both halves of the zone, parted by what was asked for last."""
        left, right = self.asked
        return [Run(self.rule, self.picks, half, dict(self.marks), self.at) for half in halves(self.zone, left, right)]

    def ends(self):
        """Whether the outcome is told, which then is in `sold`; otherwise two marks that are open are in `asked`."""
        while True:
            condition, done = self.rule.steps[self.at]
            answer = self.holds(condition)
            if answer is None:
                return False
            if answer:
                return self.sells(done)
            self.at += 1

    def holds(self, condition):
        """Whether the condition of a row holds."""
        if condition is None:
            return True
        left, sign, right = condition
        if sign == "<=":
            return self.at_least(right, left)
        return opposite(self.at_least(left, right))

    def sells(self, done):
        """Whether the outcome of what is done is told."""
        if done[0] == "keep":
            return True
        who = self.winner(done[1]) if is_integer(done[1]) else done[1]
        price = None if who is None else self.mark_of(done[2])
        self.sold = (who, price)
        return price is not None

    def is_known(self, part):
        """Whether it is known which mark a part is."""
        return is_integer(part) or part in self.marks

    def mark_of(self, part):
        """The mark that a part is."""
        if is_integer(part):
            return 0, part
        if part not in self.marks:
            place, parts = self.picks[part]
            for inner in parts:
                if self.mark_of(inner) is None:
                    return None
            left = rivals(self.zone, [self.mark_of(inner) for inner in parts], place)
            if len(left) > 1:
                self.asked = open_pair(self.zone, left)
                return None
            self.marks[part] = left[0]
        return self.marks[part]

    def at_least(self, left, right):
        """Whether one part is at least another one."""
        if self.is_known(right):
            return self.asks_reach(left, self.mark_of(right))
        mark = self.mark_of(left)
        if mark is None:
            return None
        return opposite(self.asks_reach(right, (mark[0], mark[1] + 1)))

    def asks_reach(self, part, mark):
        """Whether a part is at least a mark; if this is open, what it hangs on is asked for."""
        seen = {}
        answer = self.reaches(part, mark, seen)
        if answer is None:
            # A line is open only if one of its parts is.
            while not self.is_known(part):
                part = [inner for inner in self.picks[part][1] if self.reaches(inner, mark, seen) is None][0]
            self.asked = (self.mark_of(part), mark)
        return answer

    def reaches(self, part, mark, seen):
        """Whether a part is at least a mark; `seen` has the answers for lines.

        A line need not be known for this: it is enough how many of its parts reach the mark.
        """
        if self.is_known(part):
            return compared(self.zone, self.mark_of(part), mark)
        if part not in seen:
            place, parts = self.picks[part]
            answers = [self.reaches(inner, mark, seen) for inner in parts]
            enough = answers.count(True) >= place
            seen[part] = enough if enough or answers.count(False) > len(parts) - place else None
        return seen[part]

    def winner(self, place):
        """The seat that has this place in the standing."""
        seats = self.rule.seats
        for at, seat in enumerate(seats):
            rest = [other for other in seats if other != seat]
            # Seats ahead of this one win ties against it, seats behind it lose them.
            answers = [compared(self.zone, self.marks[other], self.marks[seat]) for other in seats[:at]]
            answers += [opposite(compared(self.zone, self.marks[seat], self.marks[other])) for other in seats[at + 1:]]
            if answers.count(True) >= place or answers.count(False) > len(seats) - place:
                continue
            if None not in answers:
                return seat
            pair = [name for name in seats if name in (seat, rest[answers.index(None)])]
            self.asked = (self.marks[pair[0]], self.marks[pair[1]])
            break
        return None


def pieces(rule, marks, zone):
    """The list of pairs of a part of the zone, and of the outcome there, with a mark as its price.

    `marks` has the bids of the seats. The parts make up the zone, and no two of them overlap.
    """
    picks = high_picks(rule)
    found = []
    waiting = [Run(rule, picks, zone, dict(marks), 0)]
    while waiting:
        run = waiting.pop()
        if run.ends():
            found.append((run.zone, run.sold))
        else:
            waiting.extend(run.parted())
    return found


def high_picks(rule):
    """For the name of each line the pair (K, parts) such that its value is the K-th greatest one of its parts."""
    picks = {}
    for name, term in zip(names_of((), rule.lines), rule.terms):
        order, place, parts = term
        picks[name] = (place if order == "high" else len(parts) + 1 - place, parts)
    return picks


def opposite(answer):
    """The opposite of an answer that may not be told."""
    return None if answer is None else not answer


def rivals(zone, marks, place):
    """Those of the marks that may still be the `place`-th greatest one, as far as the zone tells."""
    for at, mark in enumerate(marks):
        others = marks[:at] + marks[at + 1:]
        if len([other for other in others if compared(zone, other, mark)]) >= place:
            return rivals(zone, others, place)
        if len([other for other in others if compared(zone, mark, other)]) > len(others) + 1 - place:
            return rivals(zone, others, place - 1)
    return marks


def open_pair(zone, marks):
    """The first pair of marks that the zone leaves open."""
    pairs = [(left, right) for left in marks for right in marks if compared(zone, left, right) is None]
    return pairs[0]
