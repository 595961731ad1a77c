"""Questions about a rule: which values are one, which are a case of one, and the amounts of cases."""

from salebids.errors import InvalidBids
from salebids.limits import MOST_INTEGER, MOST_RING
from salebids.rules import check_bids
from salebids.written import is_integer


def is_seat(value, seats):
    """Whether a value is one of the seats."""
    return isinstance(value, str) and value in seats


def is_one_seat(question, seats):
    """Whether a question has the form (KIND, SEAT)."""
    return len(question) == 2 and is_seat(question[1], seats)


def is_ring(question, seats):
    """Whether a question has the form (KIND, SEATS)."""
    if len(question) != 2 or not isinstance(question[1], tuple) or not 1 <= len(question[1]) <= MOST_RING:
        return False
    ring = question[1]
    if not all([is_seat(seat, seats) for seat in ring]):
        return False
    return list(ring) == [seat for seat in seats if seat in ring]


def is_two_seats(question, seats):
    """Whether a question has the form (KIND, SEAT, OTHER)."""
    if len(question) != 3 or not is_seat(question[1], seats) or not is_seat(question[2], seats):
        return False
    return question[1] != question[2]


def is_shake(question, seats):
    """Whether a question has the form (KIND, SEAT, STEP)."""
    if len(question) != 3 or not is_seat(question[1], seats) or not is_integer(question[2]):
        return False
    return 0 <= question[2] <= MOST_INTEGER


def is_alone(question, seats):
    """Whether a question has the form (KIND,)."""
    return len(question) == 1


FORMS = {
    "lie": is_one_seat, "ring": is_ring, "names": is_two_seats, "seller": is_one_seat, "shake": is_shake,
    "charge": is_alone, "envy": is_alone, "waste": is_alone,
}


def is_question(value, seats):
    """Whether a value is a question about rules with these seats."""
    if not isinstance(value, tuple) or len(value) == 0 or not isinstance(value[0], str):
        return False
    form = FORMS.get(value[0])
    if form is None:
        return False
    return form(value, seats)


def holders(question):
    """For each seat whose pay-off counts the seat whose bid is its value; empty where no pay-off does."""
    if question[0] == "lie":
        return {question[1]: question[1]}
    if question[0] == "ring":
        return {seat: seat for seat in question[1]}
    if question[0] == "names":
        return {question[1]: question[1], question[2]: question[1]}
    return {}


def moving_seats(question):
    """The list of the seats whose bids in moved may be others than in bids."""
    if question[0] in ("seller", "shake"):
        return [question[1]]
    return list(holders(question))


def silent_seat(question):
    """The seat whose bid in bids is 0, None if there is none."""
    if question[0] == "names":
        return question[2]
    if question[0] == "seller":
        return question[1]
    return None


def is_bids(value, seats):
    """Whether a value is bids of these seats."""
    try:
        check_bids(value, seats)
    except InvalidBids:
        return False
    return True


def is_case(value, question, seats):
    """Whether a value is a case of a question about rules with these seats."""
    if not isinstance(value, tuple) or len(value) != 2 or not is_bids(value[0], seats) or not is_bids(value[1], seats):
        return False
    moving = moving_seats(question)
    silent = silent_seat(question)
    for seat, bid, moved in zip(seats, value[0], value[1]):
        if seat == silent and bid != 0:
            return False
        if bid != moved and seat not in moving:
            return False
        if question[0] == "shake" and abs(bid - moved) > question[2]:
            return False
    return True


def revenue(outcome, without=None):
    """The price of an outcome, 0 if nothing is sold, or if the seat `without` gets the thing."""
    return 0 if outcome is None or outcome[0] == without else outcome[1]


def gain(outcome, values):
    """The sum of the pay-offs of the seats that have a value here."""
    return 0 if outcome is None or outcome[0] not in values else values[outcome[0]] - outcome[1]


def moved_amount(rule, question, case):
    """The amount of a case of a question in which bids are moved."""
    before = rule.outcome(case[0])
    after = rule.outcome(case[1])
    if question[0] == "shake":
        return revenue(after) - revenue(before)
    if question[0] == "seller":
        return revenue(after, question[1]) - revenue(before, question[1])
    own = dict(zip(rule.seats, case[0]))
    held = holders(question)
    values = {seat: own[held[seat]] for seat in held}
    return gain(after, values) - gain(before, values)


def amount_alone(rule, question, bids):
    """The amount of a case of a question in which no bid is moved."""
    outcome = rule.outcome(bids)
    own = dict(zip(rule.seats, bids))
    if outcome is None:
        return max(bids) if question[0] == "waste" else 0
    who, price = outcome
    if question[0] == "waste":
        return max(bids) - own[who]
    if question[0] == "charge":
        return max(0, price - own[who])
    return max([0] + [own[seat] - price for seat in rule.seats if seat != who])


def amount_of(rule, question, case):
    """The amount of a case of a question."""
    if len(question) == 1:
        return amount_alone(rule, question, case[0])
    return moved_amount(rule, question, case)
