"""Checks of the parameters that several modules have."""

from salebids.errors import InvalidNumber, InvalidQuestion, NotARule, OtherSeats
from salebids.limits import MOST_INTEGER
from salebids.questions import is_question
from salebids.rules import Rule
from salebids.written import is_integer


def check_rule(rule):
    """Raises NotARule for what is no rule."""
    if not isinstance(rule, Rule):
        raise NotARule(rule)


def check_question(question, rule):
    """Raises InvalidQuestion for what is no question about the rule."""
    if not is_question(question, rule.seats):
        raise InvalidQuestion(question)


def check_integer(number):
    """Raises InvalidNumber for what is no integer."""
    if not is_integer(number):
        raise InvalidNumber(number)


def check_limit(number):
    """Raises InvalidNumber for what is no integer from 0 on."""
    if not is_integer(number) or number < 0:
        raise InvalidNumber(number)


def check_most(most):
    """Raises InvalidNumber for what is neither None nor an integer from 0 to MOST_INTEGER."""
    if most is not None and (not is_integer(most) or not 0 <= most <= MOST_INTEGER):
        raise InvalidNumber(most)


def check_same_seats(one, other):
    """Raises OtherSeats if two rules do not have the same seats."""
    if one.seats != other.seats:
        raise OtherSeats(other)
