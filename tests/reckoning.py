"""A second reckoning of questions: every case of them, one after the other, by the second reading of rules."""

import itertools

from tests.samples import outcome


def table(text, levels):
    """The outcomes of a rule for all bids out of these levels."""
    seats = text.split("\n")[0].split(" ")[1:]
    return {bids: outcome(text, bids) for bids in itertools.product(levels, repeat=len(seats))}


def pay_off(sold, seat, value):
    if sold is None or sold[0] != seat:
        return 0
    return value - sold[1]


def income(sold):
    return 0 if sold is None else sold[1]


def movers(question):
    """The seats that may bid otherwise in moved."""
    return {
        "lie": lambda: [question[1]], "ring": lambda: list(question[1]), "names": lambda: list(question[1:]),
        "seller": lambda: [question[1]], "shake": lambda: [question[1]],
    }.get(question[0], list)()


def reckoned(seats, question, bids, moved, before, after):
    """The amount of a case, of which `before` and `after` are the outcomes; None if it is no case of the question."""
    own, new = dict(zip(seats, bids)), dict(zip(seats, moved))
    if any(own[seat] != new[seat] for seat in seats if seat not in movers(question)):
        return None
    if question[0] == "lie":
        who = question[1]
        return pay_off(after, who, own[who]) - pay_off(before, who, own[who])
    if question[0] == "ring":
        return sum(pay_off(after, who, own[who]) - pay_off(before, who, own[who]) for who in question[1])
    if question[0] == "names":
        one, two = question[1:]
        if own[two] != 0:
            return None
        # Only one of both names gets the thing, so at most one of these pay-offs is not 0.
        return sum(pay_off(after, who, own[one]) - pay_off(before, who, own[one]) for who in (one, two))
    if question[0] == "seller":
        if own[question[1]] != 0:
            return None
        counted = [0 if sold and sold[0] == question[1] else income(sold) for sold in (before, after)]
        return counted[1] - counted[0]
    if question[0] == "shake":
        if not -question[2] <= own[question[1]] - new[question[1]] <= question[2]:
            return None
        return income(after) - income(before)
    if question[0] == "waste":
        return max(bids) if before is None else max(bids) - own[before[0]]
    if before is None:
        return 0
    if question[0] == "charge":
        return max(before[1] - own[before[0]], 0)
    return max([own[seat] - before[1] for seat in seats if seat != before[0]] + [0])


def cases(outcomes, seats, question):
    """All cases of a question with bids out of a table, with their amounts."""
    moving = [seats.index(seat) for seat in movers(question)]
    levels = sorted({bid for bids in outcomes for bid in bids})
    for bids, before in outcomes.items():
        for new in itertools.product(levels, repeat=len(moving)):
            moved = list(bids)
            for at, bid in zip(moving, new):
                moved[at] = bid
            moved = tuple(moved)
            worth = reckoned(seats, question, bids, moved, before, outcomes[moved])
            if worth is not None:
                yield (bids, moved), worth


def best(outcomes, seats, question):
    """The greatest amount of all cases with bids out of a table."""
    return max(worth for case, worth in cases(outcomes, seats, question))


def every_question(seats, steps):
    """All questions about rules with these seats, with these steps."""
    found = [("charge",), ("envy",), ("waste",)]
    found += [(kind, seat) for kind in ("lie", "seller") for seat in seats]
    found += [("names", *pair) for pair in itertools.permutations(seats, 2)]
    found += [("shake", seat, step) for seat in seats for step in steps]
    found += [("ring", ring) for many in (1, 2, 3) for ring in itertools.combinations(seats, many)]
    return found


def small_text(dice, many, numbers, most_lines=4, most_rows=4):
    """The text of some rule with `many` seats and these written integers, by a random source with a fixed seed."""
    seats = "abcd"[:many]
    known = list(seats)

    def part():
        return dice.choice(known) if dice.random() < 0.7 else str(dice.choice(numbers))

    def done():
        who = dice.choice(seats) if dice.random() < 0.3 else str(dice.randint(1, many))
        return "keep" if dice.random() < 0.2 else f"sell {who} at {part()}"

    text = ["seats " + " ".join(seats)]
    for at in range(dice.randint(0, most_lines)):
        parts = [part() for _ in range(dice.randint(1, 5))]
        text.append(f"x{at} = {dice.choice(['high', 'low'])} {dice.randint(1, len(parts))} {' '.join(parts)}")
        known.append(f"x{at}")
    for _ in range(dice.randint(0, most_rows)):
        text.append(f"if {part()} {dice.choice(['<', '<='])} {part()}: {done()}")
    return "\n".join(text + [done()])
