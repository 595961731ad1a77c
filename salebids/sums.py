"""Sums of marks: what revenues and amounts are where the outcomes are told.

An outcome here has a mark as its price. A sum is told by two tuples of marks: those that are added, and those that are
taken off.
"""

from salebids.questions import holders, silent_seat


def prices(outcome, without=None):
    """The tuple of the price of an outcome, empty if nothing is sold, or if the seat `without` gets the thing."""
    return () if outcome is None or outcome[0] == without else (outcome[1],)


def held_values(question, marks):
    """The marks of the values that the thing has for the seats whose pay-off counts; `marks` has those of the bids."""
    held = holders(question)
    return {seat: marks[held[seat]] for seat in held}


def value_of(outcome, values):
    """The mark of the value that the thing has for those who got it, None if their pay-off does not count."""
    return None if outcome is None else values.get(outcome[0])


def pay_off(outcome, values):
    """The sum that the pay-offs are which count."""
    value = value_of(outcome, values)
    return ((), ()) if value is None else ((value,), prices(outcome))


def sums_alone(question, marks, outcome):
    """The list of sums of which the greatest is the amount of a question in which no bid is moved."""
    none = ((), ())
    if outcome is None:
        return [none] + [((bid,), ()) for bid in marks.values() if question[0] == "waste"]
    who, price = outcome
    if question[0] == "waste":
        return [none] + [((bid,), (marks[who],)) for bid in marks.values()]
    if question[0] == "charge":
        return [none, ((price,), (marks[who],))]
    return [none] + [((marks[seat],), (price,)) for seat in marks if seat != who]


def sum_moved(question, marks, before, after):
    """The sum that is the amount of a question in which bids are moved, with the outcomes for bids and for moved."""
    if question[0] in ("seller", "shake"):
        without = silent_seat(question)
        return prices(after, without), prices(before, without)
    values = held_values(question, marks)
    plus, minus = pay_off(after, values)
    less, more = pay_off(before, values)
    return plus + more, minus + less
