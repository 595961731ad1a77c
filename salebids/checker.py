"""The checker: whether a certificate shows that a claim is true, whoever wrote it."""

from salebids.answers import first_course
from salebids.errors import InvalidText
from salebids.questions import amount_of, is_bids, is_case, is_question, revenue
from salebids.rules import Rule
from salebids.settings import question_setting, rules_setting
from salebids.sums import prices, sum_moved, sums_alone
from salebids.written import is_integer
from salebids.zones import ENDLESS, compared, greatest_sum, halves

LENGTHS = {"most": 4, "more": 4, "lead": 4, "passes": 4, "same": 3, "parts": 3}


def accepts(claim, certificate):
    """Whether a value is a claim, and another one is a certificate for it."""
    if not isinstance(claim, tuple) or len(claim) == 0 or not isinstance(claim[0], str):
        return False
    if len(claim) != LENGTHS.get(claim[0]) or (len(claim) == 4 and not is_integer(claim[3])):
        return False
    rule = rule_with(claim[1])
    if rule is None:
        return False
    if claim[0] in ("most", "more"):
        return accepts_answer(claim, rule, certificate)
    other = rule_with(claim[2])
    if other is None or other.seats != rule.seats:
        return False
    return accepts_comparison(claim, rule, other, certificate)


def rule_with(text):
    """The rule with this text, None for what is no text of a rule."""
    try:
        return Rule.read(text)
    except InvalidText:
        return None


def accepts_answer(claim, rule, certificate):
    """Whether a certificate is one for a claim about a question, if that is one about the rule."""
    question, limit = claim[2:]
    if not is_question(question, rule.seats):
        return False
    if claim[0] == "more":
        return is_case(certificate, question, rule.seats) and amount_of(rule, question, certificate) > limit
    return is_tree_for(claim, question_setting(rule, question), certificate)


def accepts_comparison(claim, one, other, certificate):
    """Whether a certificate is one for a claim about two rules with the same seats."""
    if claim[0] in ("lead", "same"):
        return is_tree_for(claim, rules_setting(one, other), certificate)
    if not is_bids(certificate, one.seats):
        return False
    first = one.outcome(certificate)
    second = other.outcome(certificate)
    return first != second if claim[0] == "parts" else revenue(first) - revenue(second) > claim[3]


def is_tree_for(claim, setting, value):
    """Whether a value is a tree for a claim.

    Each node is looked at behind the one that names it, so that one pass finds what is named twice or not at all.
    """
    if not isinstance(value, tuple) or len(value) == 0:
        return False
    courses = {0: first_course(setting)}
    for at, node in enumerate(value):
        if at not in courses or not isinstance(node, tuple):
            return False
        course = courses.pop(at)
        if len(node) == 0:
            if not is_shown(claim, course):
                return False
        elif is_parting(node, at, len(value), setting) and node[2] not in courses and node[3] not in courses:
            yes, no = both_ways(course, node, setting)
            courses[node[2]] = yes
            courses[node[3]] = no
        else:
            return False
    return True


def is_parting(node, at, many, setting):
    """Whether the node with the index `at`, of `many`, has the form (P, Q, YES, NO)."""
    if len(node) != 4 or mark_named(node[0], setting) is None or mark_named(node[1], setting) is None:
        return False
    yes, no = node[2:]
    return is_integer(yes) and is_integer(no) and at < yes < many and at < no < many and yes != no


def mark_named(value, setting):
    """The mark that a tree names by this value, None if it is no mark."""
    if is_integer(value):
        return 0, value
    if not isinstance(value, tuple) or len(value) != 2:
        return None
    if not isinstance(value[0], str) or not isinstance(value[1], str):
        return None
    return setting.named.get(value)


def both_ways(course, node, setting):
    """The courses of the nodes YES and NO, with what is told by now; None for one whose facts no case has."""
    if course is None:
        return None, None
    course.left_open()
    ways = halves(course.zone, mark_named(node[0], setting), mark_named(node[1], setting))
    return [None if zone is None else course.within(zone) for zone in ways]


def is_shown(claim, course):
    """Whether no case is left at a node (), or all of them have the same answers and the claim holds for them."""
    if course is None:
        return True
    if course.left_open() is not None:
        return False
    zone = course.zone
    sold = course.sold
    if claim[0] == "same":
        return is_same_sale(zone, sold[0], sold[1])
    totals = [(prices(sold[0]), prices(sold[1]))] if claim[0] == "lead" else amounts(course, claim[2])
    tops = [greatest_sum(zone, plus, minus) for plus, minus in totals]
    return all([top != ENDLESS and top <= claim[3] for top in tops])


def is_same_sale(zone, first, second):
    """Whether two outcomes are the same in all of a zone."""
    if first is None or second is None:
        return first is None and second is None
    return first[0] == second[0] and equal_marks(zone, first[1], second[1])


def equal_marks(zone, one, other):
    """Whether two marks are equal in all of a zone."""
    return compared(zone, one, other) is True and compared(zone, other, one) is True


def amounts(course, question):
    """The list of sums of which the greatest is the amount of the question, where all answers are told."""
    bids = course.setting.sides[0][1]
    if len(question) == 1:
        return sums_alone(question, bids, course.sold[0])
    return [sum_moved(question, bids, course.sold[0], course.sold[1])]
