"""Claims with certificates for them, which the checker accepts."""

from salebids.answers import first_course
from salebids.asking import shown
from salebids.checks import check_integer, check_question, check_rule, check_same_seats
from salebids.compare import ahead, parting
from salebids.settings import question_setting, rules_setting
from salebids.zones import halves


def certify_most(rule, question, limit):
    """The claim that a greatest amount is at most a limit, or that it is not, with a certificate."""
    check_rule(rule)
    check_question(question, rule)
    check_integer(limit)
    case = shown(rule, question, limit + 1)
    if case is not None:
        return ("more", str(rule), question, limit), case
    return ("most", str(rule), question, limit), tree(question_setting(rule, question))


def certify_lead(one, other, limit):
    """The claim that the lead of one rule over another one is at most a limit, or that it is not, likewise."""
    check_rule(one)
    check_rule(other)
    check_integer(limit)
    check_same_seats(one, other)
    bids = ahead(one, other, limit + 1)
    if bids is not None:
        return ("passes", str(one), str(other), limit), bids
    return ("lead", str(one), str(other), limit), tree(rules_setting(one, other))


def certify_same(one, other):
    """The claim that the outcomes of two rules are the same for all bids, or that they are not, likewise."""
    bids = parting(one, other)
    if bids is not None:
        return ("parts", str(one), str(other)), bids
    return ("same", str(one), str(other)), tree(rules_setting(one, other))


def tree(setting):
    """The tree that parts the cases by every answer that is left open."""
    names = names_of_marks(setting)
    nodes = [()]
    waiting = [(0, first_course(setting))]
    while waiting:
        at, course = waiting.pop()
        pair = course.left_open()
        if pair is not None:
            yes = len(nodes)
            nodes[at] = (name_of(pair[0], names), name_of(pair[1], names), yes, yes + 1)
            nodes.extend([(), ()])
            ways = [course.within(zone) for zone in halves(course.zone, pair[0], pair[1])]
            waiting.extend([(yes, ways[0]), (yes + 1, ways[1])])
    return tuple(nodes)


def names_of_marks(setting):
    """For each mark of a number the first name that trees have for it."""
    names = {}
    for name, mark in setting.named.items():
        names.setdefault(mark, name)
    return names


def name_of(mark, names):
    """What stands in a tree for a mark: the name of a number, or an integer."""
    return names.get(mark, mark[1])
