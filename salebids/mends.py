"""The least changes of a rule that mend a question."""

from salebids.asking import exceeds
from salebids.checks import check_limit, check_question, check_rule
from salebids.errors import InvalidChange, InvalidChanges
from salebids.limits import MOST_CHANGES


def mends(rule, question, limit, changes):
    """All least sets of the changes that mend a question within a limit, as tuples of their indexes."""
    check_rule(rule)
    check_question(question, rule)
    check_limit(limit)
    check_changes(rule, changes)
    found = []
    for indexes in index_sets(len(changes)):
        if not holds_one(indexes, found):
            if not exceeds(changed_by(rule, [changes[at] for at in indexes]), question, limit):
                found.append(indexes)
    return tuple(found)


def check_changes(rule, changes):
    """Raises InvalidChanges for what is no tuple of up to MOST_CHANGES different changes of the rule."""
    if not isinstance(changes, tuple):
        raise InvalidChanges(None)
    for at, change in enumerate(changes):
        if at == MOST_CHANGES or not is_change(rule, change) or change[:2] in [other[:2] for other in changes[:at]]:
            raise InvalidChanges(at)


def is_change(rule, value):
    """Whether a value is a change of the rule."""
    try:
        rule.changed(value)
    except InvalidChange:
        return False
    return True


def changed_by(rule, changes):
    """The rule with several different changes, none of which bears on whether another one is right."""
    for change in changes:
        rule = rule.changed(change)
    return rule


def index_sets(many):
    """All ascending tuples of indexes below `many`, those with fewer indexes first, equally long ones ascending."""
    found = [()]
    for at in range(many):
        found = found + [indexes + (at,) for indexes in found]
    return sorted(found, key=lambda indexes: (len(indexes), indexes))


def holds_one(indexes, found):
    """Whether one of the sets that were found is a part of this one."""
    for known in found:
        if all([at in indexes for at in known]):
            return True
    return False
