"""A second checker of trees, which follows every case through them, and a second writer of trees."""

import itertools

from tests.reckoning import cases, income, movers, table
from tests.samples import outcome, worths

ALONE = ("charge", "envy", "waste")


def seats_of(text):
    return tuple(text.split("\n")[0].split(" ")[1:])


def answers(text, bids, ranks):
    """The answers of bids, as point [15] lists them; with `ranks` all bids are compared, whatever is done."""
    found = worths(text, bids)
    told = []

    def worth(part):
        return int(part) if part[0].isdigit() else found[part]

    def compare(parts):
        told.extend([worth(one) >= worth(other) for one, other in itertools.combinations(parts, 2)])

    done = None
    for row in text.split("\n")[1:]:
        if " = " in row:
            compare(row.split(" ")[4:])
        elif done is None:
            condition, colon, rest = row.rpartition(": ")
            holds = True
            if colon:
                low, sign, high = condition.split(" ")[1:]
                holds = worth(low) < worth(high) or (sign == "<=" and worth(low) == worth(high))
                told.append(holds)
            done = rest if holds else None
    if ranks or done.split(" ")[1:2] and done.split(" ")[1].isdigit():
        compare(seats_of(text))
    return tuple(told)


def named(seats, bids, moved=None):
    """The numbers of a case by the marks that stand for them."""
    numbers = {("bid", seat): bid for seat, bid in zip(seats, bids)}
    if moved is not None:
        numbers.update({("moved", seat): bid for seat, bid in zip(seats, moved)})
    return numbers


def all_cases(claim, levels):
    """For each case of a claim with bids out of these levels: its numbers, its answers, and whether it fits the claim."""
    kind, text = claim[:2]
    seats = seats_of(text)
    outcomes = table(text, levels)
    if kind == "most":
        question, limit = claim[2:]
        ranks = question[0] in ("envy", "waste")
        told = {bids: answers(text, bids, ranks) for bids in outcomes}
        alone = question[0] in ALONE
        return [(named(seats, bids, None if alone else moved), (told[bids], told[moved]), worth <= limit)
                for (bids, moved), worth in cases(outcomes, seats, question)]
    found = []
    for bids, first in outcomes.items():
        second = outcome(claim[2], bids)
        fits = first == second if kind == "same" else income(first) - income(second) <= claim[3]
        found.append((named(seats, bids), (answers(text, bids, False), answers(claim[2], bids, False)), fits))
    return found


def is_whole(value):
    return isinstance(value, int) and not isinstance(value, bool)


def worth_of(mark, numbers):
    return mark if is_whole(mark) else numbers[mark]


def shaped(tree, marks):
    """Whether a value is a tree with these marks, by counting how often each node is named."""
    if not isinstance(tree, tuple) or not tree:
        return False
    often = [0] * len(tree)
    for at, node in enumerate(tree):
        if not isinstance(node, tuple) or len(node) not in (0, 4):
            return False
        for mark in node[:2]:
            if not is_whole(mark) and mark not in marks:
                return False
        for index in node[2:]:
            if not is_whole(index) or not at < index < len(tree):
                return False
            often[index] += 1
    return often[0] == 0 and all(many == 1 for many in often[1:])


def leaf_of(tree, numbers):
    """The index of the node () to which a case comes."""
    at = 0
    while tree[at]:
        one, other, yes, no = tree[at]
        at = yes if worth_of(one, numbers) >= worth_of(other, numbers) else no
    return at


def second_check(tree, found):
    """Whether a tree is one for the claim whose cases these are."""
    if not shaped(tree, list(found[0][0])):
        return False
    told = {}
    for numbers, answered, fits in found:
        at = leaf_of(tree, numbers)
        if not fits or told.setdefault(at, answered) != answered:
            return False
    return True


def written_tree(dice, found, integers, waste=0.0):
    """A tree that parts cases until the answers are the same, by comparisons that are drawn by lot."""
    marks = list(found[0][0]) + list(integers)
    nodes = [()]
    waiting = [(0, found)]
    while waiting:
        at, left = waiting.pop(dice.randrange(len(waiting)))
        alike = all(answered == left[0][1] for numbers, answered, fits in left[1:])
        if alike and dice.random() >= waste:
            continue
        one, other = drawn_pair(dice, marks, left, alike)
        parts = [[], []]
        for case in left:
            parts[0 if worth_of(one, case[0]) >= worth_of(other, case[0]) else 1].append(case)
        indexes = [len(nodes), len(nodes) + 1]
        if dice.random() < 0.5:
            indexes.reverse()
        nodes += [(), ()]
        nodes[at] = (one, other, indexes[0], indexes[1])
        waiting += [(index, part) for index, part in zip(indexes, parts) if part]
    return tuple(nodes)


def flat(nested):
    """The tree that is told by nodes within nodes: () or (P, Q, YES, NO), with such nodes as YES and NO."""
    nodes = [()]
    waiting = [(0, nested)]
    while waiting:
        at, node = waiting.pop()
        if node:
            nodes[at] = (*node[:2], len(nodes), len(nodes) + 1)
            waiting += [(len(nodes), node[2]), (len(nodes) + 1, node[3])]
            nodes += [(), ()]
    return tuple(nodes)


def drawn_pair(dice, marks, left, alike):
    """Two marks by which cases are parted; where all are alike, any two."""
    while True:
        one, other = dice.choice(marks), dice.choice(marks)
        sides = {worth_of(one, numbers) >= worth_of(other, numbers) for numbers, answered, fits in left}
        if alike or len(sides) == 2:
            return one, other


def spoiled(dice, tree, marks):
    """A tree with one thing changed."""
    nodes = list(tree)
    at = dice.randrange(len(nodes))
    kind = dice.choice(("out", "double", "exchange", "mark", "index", "leaf", "turn", "swap"))
    if kind == "out":
        del nodes[at]
    elif kind == "double":
        nodes.insert(at, nodes[at])
    elif kind == "exchange":
        other = dice.randrange(len(nodes))
        nodes[at], nodes[other] = nodes[other], nodes[at]
    elif kind == "leaf" or not nodes[at]:
        nodes[at] = ()
    else:
        one, other, yes, no = nodes[at]
        if kind == "mark":
            one = dice.choice(marks)
        elif kind == "index":
            yes = dice.randrange(-1, len(nodes) + 1)
        elif kind == "turn":
            one, other = other, one
        else:
            yes, no = no, yes
        nodes[at] = (one, other, yes, no)
    return tuple(nodes)
