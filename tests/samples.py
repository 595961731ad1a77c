"""Rules, wrong values and a second reading of rules that the tests share."""

import itertools
import re

from salebids.rules import Rule


class Agrees:
    """Equal to everything, so that a check by `==` alone would take it for right."""

    def __eq__(self, other):
        return True

    def __ne__(self, other):
        return False

    __hash__ = None


class Refuses:
    """Not to be compared at all."""

    def __eq__(self, other):
        raise RuntimeError("compared")

    __hash__ = None


def nested(depth):
    value = ()
    for _ in range(depth - 1):
        value = (value,)
    return value


SECOND_TEXT = "seats a b c\nask = high 2 a b c 10\nif b < 10: sell a at 10\nsell 1 at ask"
FIRST_TEXT = "seats a b\ntop = high 1 a b\nif top < 5: keep\nsell 1 at top"


def second():
    return Rule.read(SECOND_TEXT)


def first():
    return Rule(("a", "b"), (("top", "high 1 a b"),), ("if top < 5: keep", "sell 1 at top"))


def odd_values():
    """Values of many kinds; none of them is a name, a tuple of names, bids, a text or a change of a rule here."""
    return [
        None, True, False, -1, 0, 1, 10 ** 39, -(10 ** 39), "", " ", "A", "1", "a\n", "=", "#~", b"", b"a", b"seats a",
        [], ["a"], [("x", "low 1 a")], {}, {"a": 1}, set(), {"a"}, frozenset(("a",)), range(1), nested(10),
        [[[[[[[[[["a"]]]]]]]]]], object(), Agrees(), Refuses(), int, Rule, Rule.read, len, first(), ValueError("a"),
        NotImplemented, Ellipsis, slice(0, 1),
    ]


def caught(kind, action, *passed, **named):
    """The error of exactly this class that a call raises."""
    try:
        action(*passed, **named)
    except kind as error:
        assert error.__class__ is kind, error.__class__
        return error
    raise AssertionError(f"no {kind.__name__} for {passed} {named}")


# A second reading of rules, by regular expressions, written apart from that of the package.

NAME = "[a-z][a-z0-9]{0,7}"
WHOLE = "(?:0|[1-9][0-9]{0,11}|1000000000000)"
PART = f"(?:{NAME}|{WHOLE})"
LINE = re.compile(f"({NAME}) = (?:high|low) ([1-6])((?: {PART}){{1,6}})")
DONE = f"(?:keep|sell ({NAME}|[1-4]) at ({PART}))"
LAST = re.compile(DONE)
EARLIER = re.compile(f"if ({PART}) <=? ({PART}): {DONE}")


def reads(text):
    """Whether a string is the text of a rule."""
    head, *rest = text.split("\n")
    if not re.fullmatch(f"seats(?: {NAME}){{1,4}}", head):
        return False
    seats = head.split(" ")[1:]
    known = list(seats)
    lines = list(itertools.takewhile(lambda row: " = " in row, rest))
    rows = rest[len(lines):]
    if len(set(seats)) < len(seats) or len(lines) > 8 or not 1 <= len(rows) <= 6:
        return False
    for line in lines:
        found = LINE.fullmatch(line)
        if not found or found[1] in known:
            return False
        parts = found[3].split(" ")[1:]
        if int(found[2]) > len(parts) or not all(known_part(part, known) for part in parts):
            return False
        known.append(found[1])
    return all(
        reads_row(row, at == len(rows) - 1, seats, known) for at, row in enumerate(rows)
    )


def known_part(part, known):
    return part[0].isdigit() or part in known


def reads_row(row, is_last, seats, known):
    found = (LAST if is_last else EARLIER).fullmatch(row)
    if not found:
        return False
    *compared, who, price = found.groups()
    if who is not None and not (int(who) <= len(seats) if who.isdigit() else who in seats):
        return False
    return all(part is None or known_part(part, known) for part in [*compared, price])


def worths(text, bids):
    """The values of the names of a rule, by counting instead of sorting."""
    head, *rest = text.split("\n")
    found = dict(zip(head.split(" ")[1:], bids))

    def worth(part):
        return int(part) if part[0].isdigit() else found[part]

    for row in rest:
        if " = " in row:
            name, term = row.split(" = ")
            order, place, *parts = term.split(" ")
            numbers = [worth(part) for part in parts]
            for number in numbers:
                if order == "high":
                    beyond = [other for other in numbers if other > number]
                else:
                    beyond = [other for other in numbers if other < number]
                if len(beyond) < int(place) <= len(beyond) + numbers.count(number):
                    found[name] = number
    return found


def outcome(text, bids):
    """The outcome of a rule, row by row of its text."""
    found = worths(text, bids)
    seats = text.split("\n")[0].split(" ")[1:]

    def worth(part):
        return int(part) if part[0].isdigit() else found[part]

    for row in text.split("\n")[1:]:
        if " = " in row:
            continue
        words = row.replace(":", "").split(" ")
        if words[0] == "if" and len(words) > 4:
            low, high = worth(words[1]), worth(words[3])
            if low > high or (low == high and words[2] == "<"):
                continue
            words = words[4:]
        if words == ["keep"]:
            return None
        who = words[1]
        if who.isdigit():
            left = list(seats)
            for _ in range(int(who)):
                best = max(found[seat] for seat in left)
                who = next(seat for seat in left if found[seat] == best)
                left.remove(who)
        return who, worth(words[3])
    raise AssertionError(text)


WORDS = ["a", "b", "c", "d", "if", "at", "sell", "keep", "high", "low", "seats", "x1", "abcdefgh"]
NUMBERS = ["0", "1", "2", "3", "5", "9", "10", "1000000000000"]


def any_text(dice):
    """The text of some rule, by a random source with a fixed seed."""
    names = dice.sample(WORDS, len(WORDS))
    seats = names[:dice.randint(1, 4)]
    lines = names[4:4 + dice.randint(0, 8)]
    known = list(seats)

    def part():
        return dice.choice(known) if dice.random() < 0.75 else dice.choice(NUMBERS)

    def done():
        who = dice.choice(seats) if dice.random() < 0.4 else str(dice.randint(1, len(seats)))
        return "keep" if dice.random() < 0.2 else f"sell {who} at {part()}"

    text = ["seats " + " ".join(seats)]
    for name in lines:
        parts = [part() for _ in range(dice.randint(1, 6))]
        text.append(f"{name} = {dice.choice(['high', 'low'])} {dice.randint(1, len(parts))} {' '.join(parts)}")
        known.append(name)
    for _ in range(dice.randint(0, 5)):
        text.append(f"if {part()} {dice.choice(['<', '<='])} {part()}: {done()}")
    text.append(done())
    return "\n".join(text)
