"""Two rules with the same seats, compared for all bids at once."""

from salebids.checks import check_integer, check_most, check_rule, check_same_seats
from salebids.runs import pieces
from salebids.search import Search, search_differences
from salebids.settings import bid_marks
from salebids.zones import ENDLESS, greatest_sum, least_numbers, reaching, whole_zone


def lead(one, other, *, most=None):
    """The greatest revenue of one rule less that of another one for the same bids, None if there is none."""
    check_rule(one)
    check_rule(other)
    check_most(most)
    check_same_seats(one, other)
    best = searched_lead(one, other, most, ENDLESS).best
    return None if best == ENDLESS else best


def ahead(one, other, least, *, most=None):
    """Bids for which one revenue is by at least `least` greater than the other one, None if there are none."""
    check_rule(one)
    check_rule(other)
    check_integer(least)
    check_most(most)
    check_same_seats(one, other)
    search = searched_lead(one, other, most, least)
    return search.numbers(least)[1:] if search.is_over() else None


def same(one, other):
    """Whether two rules have the same outcomes for all bids."""
    return parting(one, other) is None


def parting(one, other):
    """Bids for which two rules have unlike outcomes, None if there are none."""
    check_rule(one)
    check_rule(other)
    check_same_seats(one, other)
    marks = bid_marks(one.seats)
    for zone, first in pieces(one, marks, whole_zone(len(one.seats) + 1)):
        for part, second in pieces(other, marks, zone):
            numbers = unlike(part, first, second)
            if numbers is not None:
                return numbers[1:]
    return None


def searched_lead(one, other, most, enough):
    """The search for the lead of one rule over another one, which is over where a difference is enough."""
    search = Search(-ENDLESS, enough)
    marks = bid_marks(one.seats)
    search_differences(search, (one, marks), (other, marks), whole_zone(len(one.seats) + 1, most))
    return search


def unlike(zone, first, second):
    """Numbers of a zone for which two outcomes there are not the same, None if there are none."""
    if first is None and second is None:
        return None
    if first is None or second is None or first[0] != second[0]:
        return least_numbers(zone)
    for plus, minus in ((first, second), (second, first)):
        if greatest_sum(zone, (plus[1],), (minus[1],)) > 0:
            return reaching(zone, (plus[1],), (minus[1],), 1)
    return None
