"""What a claim looks at: the numbers of a case, and the rules that are run on them.

Number k + 1 is the bid of seat k in bids; behind these numbers stand the bids in moved of the seats that may move.
"""

from salebids.questions import moving_seats, silent_seat
from salebids.zones import narrowed, whole_zone


class Setting:
    """The zone of all cases, the marks of its numbers by the names that trees have for them, and the sides.

    A side is a pair of a rule and of the marks of its bids. `ranks` tells whether all bids are compared on each side.
    """

    def __init__(self, zone, named, sides, ranks):
        self.zone = zone
        self.named = named
        self.sides = sides
        self.ranks = ranks


def bid_marks(seats):
    """The marks of the bids of seats: the numbers from 1 on."""
    return {seat: (at + 1, 0) for at, seat in enumerate(seats)}


def moved_marks(question, seats):
    """The marks of the bids of seats in moved."""
    marks = bid_marks(seats)
    moving = moving_seats(question)
    at = len(seats) + 1
    for seat in seats:
        if seat in moving:
            marks[seat] = (at, 0)
            at += 1
    return marks


def case_zone(question, seats, most=None):
    """The zone of all cases of a question; with `most`, of those whose bids are at most that."""
    before = bid_marks(seats)
    after = moved_marks(question, seats)
    zone = whole_zone(len(seats) + 1 + len(moving_seats(question)), most)
    silent = silent_seat(question)
    if silent is not None:
        zone = narrowed(zone, before[silent][0], 0, 0)
    if question[0] == "shake":
        old = before[question[1]][0]
        new = after[question[1]][0]
        zone = narrowed(narrowed(zone, new, old, question[2]), old, new, question[2])
    return zone


def named_marks(word, marks):
    """The marks of seats by the names that trees have for them."""
    return {(word, seat): marks[seat] for seat in marks}


def question_setting(rule, question):
    """The setting of a question about a rule."""
    before = bid_marks(rule.seats)
    after = moved_marks(question, rule.seats)
    zone = case_zone(question, rule.seats)
    named = named_marks("bid", before)
    if len(question) == 1:
        return Setting(zone, named, ((rule, before),), question[0] != "charge")
    for seat in rule.seats:
        named[("moved", seat)] = after[seat]
    return Setting(zone, named, ((rule, before), (rule, after)), False)


def rules_setting(one, other):
    """The setting of two rules with the same seats."""
    marks = bid_marks(one.seats)
    return Setting(whole_zone(len(one.seats) + 1), named_marks("bid", marks), ((one, marks), (other, marks)), False)
