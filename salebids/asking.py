"""Questions about a rule, answered for all bids at once."""

from salebids.checks import check_integer, check_most, check_question, check_rule
from salebids.errors import InvalidCase
from salebids.questions import amount_of, is_case, moving_seats, silent_seat
from salebids.runs import pieces
from salebids.search import Search, places_of, search_differences, search_pairs
from salebids.settings import bid_marks, case_zone, moved_marks
from salebids.sums import held_values, prices, sums_alone, value_of
from salebids.zones import ENDLESS, narrowed, whole_zone


def amount(rule, question, case):
    """The amount of a case of a question."""
    check_rule(rule)
    check_question(question, rule)
    if not is_case(case, question, rule.seats):
        raise InvalidCase(case)
    return amount_of(rule, question, case)


def greatest(rule, question, *, most=None):
    """The greatest amount of a question, None if there is none."""
    check_rule(rule)
    check_question(question, rule)
    check_most(most)
    best = searched(rule, question, most, ENDLESS).best
    return None if best == ENDLESS else best


def shown(rule, question, least, *, most=None):
    """A case of a question with an amount of at least `least`, None if there is none."""
    check_rule(rule)
    check_question(question, rule)
    check_integer(least)
    check_most(most)
    many = len(rule.seats) + 1
    numbers = (0,) * (2 * many)
    if least > 0:
        search = searched(rule, question, most, least)
        if not search.is_over():
            return None
        numbers = search.numbers(least)
    places = places_of(many, moving_numbers(rule, question), many)
    return numbers[1:many], tuple([numbers[place] for place in places[1:]])


def truthful(rule):
    """Whether no seat can gain by another bid than its value."""
    check_rule(rule)
    for seat in rule.seats:
        if exceeds(rule, ("lie", seat), 0):
            return False
    return True


def exceeds(rule, question, limit):
    """Whether some case of a question has an amount that is greater than a limit from 0 on."""
    return searched(rule, question, None, limit + 1).is_over()


def searched(rule, question, most, enough):
    """The search for the greatest amount above 0, which is over where an amount is enough.

    Number k + 1 is the bid of seat k in bids; behind these numbers stand the bids in moved of the moving seats.
    """
    search = Search(0, enough)
    if question[0] == "shake":
        search_shake(search, rule, question, most)
    elif question[0] == "seller":
        search_seller(search, rule, question, most)
    elif len(question) == 1:
        search_alone(search, rule, question, most)
    else:
        search_gains(search, rule, question, most)
    return search


def moving_numbers(rule, question):
    """The list of the numbers of the bids that may be others in moved."""
    moving = moving_seats(question)
    return [at + 1 for at, seat in enumerate(rule.seats) if seat in moving]


def search_alone(search, rule, question, most):
    """Searches a question in which no bid is moved."""
    marks = bid_marks(rule.seats)
    for zone, outcome in pieces(rule, marks, whole_zone(len(rule.seats) + 1, most)):
        for plus, minus in sums_alone(question, marks, outcome):
            search.offer((zone, plus, minus))
        if search.is_over():
            return


def search_shake(search, rule, question, most):
    """Searches a question in which a bid is moved by a step at most."""
    before = bid_marks(rule.seats)
    after = moved_marks(question, rule.seats)
    search_differences(search, (rule, after), (rule, before), case_zone(question, rule.seats, most))


def search_seller(search, rule, question, most):
    """Searches a question in which the seller bids."""
    befores = []
    afters = []
    for zone, outcome in whole_pieces(rule, most):
        paid = prices(outcome, question[1])
        afters.append((zone, paid, ()))
        befores.append((zone, (), paid))
    search_pairs(search, silenced(befores, rule, question), afters, moving_numbers(rule, question))


def search_gains(search, rule, question, most):
    """Searches a question in which pay-offs count, for each value that the thing may have behind the move."""
    values = held_values(question, bid_marks(rule.seats))
    found = whole_pieces(rule, most)
    moving = moving_numbers(rule, question)
    for worth in sorted(set(list(values.values()))) + [None]:
        befores = [(zone,) + sums_before(worth, values, outcome) for zone, outcome in found]
        afters = [(zone, (), () if worth is None else prices(outcome)) for zone, outcome in found
                  if value_of(outcome, values) == worth]
        search_pairs(search, silenced(befores, rule, question), afters, moving)
        if search.is_over():
            return


def whole_pieces(rule, most):
    """The pieces of a rule for all its bids."""
    return pieces(rule, bid_marks(rule.seats), whole_zone(len(rule.seats) + 1, most))


def sums_before(worth, values, outcome):
    """The marks that are added and taken off for bids, the value behind the move included."""
    plus = () if worth is None else (worth,)
    own = value_of(outcome, values)
    if own is None:
        return plus, ()
    if own == worth:
        return prices(outcome), ()
    return plus + prices(outcome), (own,)


def silenced(totals, rule, question):
    """The sums in which the seat that does not bid at first, if there is one, bids 0."""
    silent = silent_seat(question)
    if silent is None:
        return totals
    at = bid_marks(rule.seats)[silent][0]
    kept = [(narrowed(zone, at, 0, 0), plus, minus) for zone, plus, minus in totals]
    return [total for total in kept if total[0] is not None]
