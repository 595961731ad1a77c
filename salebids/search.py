"""Searches for the greatest value that sums of marks have in many zones.

A *sum* is a tuple (zone, plus, minus): the marks in the tuple `plus` less those in `minus`, in this zone.
"""

from salebids.runs import pieces
from salebids.sums import prices
from salebids.zones import ENDLESS, are_apart, greatest_sum, joined, lies_in, reaching


class Search:
    """The greatest one of the sums that were offered, if it is greater than `best` at the beginning."""

    def __init__(self, best, enough):
        self.best = best
        self.enough = enough
        self.found = None

    def is_over(self):
        """Whether what was found is enough."""
        return self.best == ENDLESS or self.best >= self.enough

    def offer(self, total):
        """Takes a sum that is greater than those before it."""
        zone, plus, minus = total
        top = greatest_sum(zone, plus, minus)
        if top > self.best:
            self.best = top
            self.found = total

    def numbers(self, least):
        """Numbers for which the sum that was found is at least `least`."""
        zone, plus, minus = self.found
        return reaching(zone, plus, minus, least)


def search_differences(search, one, other, zone):
    """Offers one revenue less another one; each is told by a pair of a rule and of the marks of its bids."""
    for part, first in pieces(one[0], one[1], zone):
        for smaller, second in pieces(other[0], other[1], part):
            search.offer((smaller, prices(first), prices(second)))
            if search.is_over():
                return


def search_pairs(search, befores, afters, moving):
    """Offers the sums of one of `befores` and one of `afters`, which have all numbers in common but those in `moving`.

    All of these are sums over the same numbers; the moving ones of the latter come to stand behind the others.
    """
    rest = loosened_ones(afters, moving)
    for one, before in loosened_ones(befores, moving):
        for other, after in rest:
            many = len(before[0])
            if loose_top(one, other, many - len(moving)) > search.best:
                search.offer(joined_sum(before, after, places_of(many, moving, many)))
                if search.is_over():
                    return


def places_of(many, own, start):
    """Places for `many` numbers: those in the list `own` stand from `start` on, each other one where it is."""
    return [start + own.index(at) if at in own else at for at in range(many)]


def joined_sum(one, other, places):
    """Two sums added, the numbers of the other one at these places; None if their zones have nothing in common."""
    zone = joined(one[0], other[0], places)
    if zone is None:
        return None
    plus, minus = [tuple([(places[at], shift) for at, shift in marks]) for marks in other[1:]]
    return zone, one[1] + plus, one[2] + minus


def loose_top(one, other, shared):
    """The greatest value of two loosened sums added, which have their first `shared` numbers in common."""
    if are_apart(one[0], other[0], shared):
        return -ENDLESS
    total = joined_sum(one, other, places_of(len(other[0]), list(range(shared, len(other[0]))), len(one[0])))
    if total is None:
        return -ENDLESS
    return greatest_sum(total[0], total[1], total[2])


def loosened_ones(totals, moving):
    """Pairs of a loosened sum and of the one it comes from, without those whose zones lie in that of another one."""
    sources = {}
    for total in totals:
        sources.setdefault(loosened(total, moving), total)
    kept = {}
    # Greater zones go first, so that what lies in another one always comes behind it.
    for loose in sorted(sources, key=narrowness):
        alike = kept.setdefault(loose[1:], [])
        if not lies_in_one(loose[0], alike):
            alike.append(loose[0])
    return [((zone,) + marks, sources[(zone,) + marks]) for marks in kept for zone in kept[marks]]


def narrowness(total):
    """A number that is less for a sum in whose zone that of another one lies."""
    return -sum([sum(row) for row in total[0]])


def lies_in_one(zone, others):
    """Whether a zone lies in one of the others."""
    for other in others:
        if lies_in(zone, other):
            return True
    return False


def loosened(total, moving):
    """What a sum tells of the numbers that do not move: a sum over these, and over a new number for each of its marks.

    In its zone what counts as plus may also be less, and what counts as minus may also be greater: this brings no
    greater value, and by it many zones become the same, or one becomes a part of another one.
    """
    zone, plus, minus = total
    told = [(at, 0, 0) for at in range(len(zone)) if at not in moving]
    first = len(told)
    told = told + [(at, shift, 1) for at, shift in plus] + [(at, shift, -1) for at, shift in minus]
    rows = [[0 if one == other else loose_entry(zone, told[one], told[other]) for other in range(len(told))]
            for one in range(len(told))]
    marks = tuple([(at, 0) for at in range(first, len(told))])
    return tuple([tuple(row) for row in rows]), marks[:len(plus)], marks[len(plus):]


def loose_entry(zone, one, other):
    """The greatest difference of two numbers of a loosened sum, told by their marks and their signs."""
    at, more, sign = one
    place, less, against = other
    if sign < 0 or against > 0 or zone[at][place] == ENDLESS:
        return ENDLESS
    return zone[at][place] + more - less
