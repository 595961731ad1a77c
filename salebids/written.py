"""How integers, names, terms and rows are written.

Each function below that ends in `_of` reads one written form, and returns None for what is written otherwise.
"""

from salebids.limits import MOST_INTEGER, MOST_PARTS

LETTERS = "abcdefghijklmnopqrstuvwxyz"
DIGITS = "0123456789"
LONGEST_NAME = 8
ORDERS = ("high", "low")
SIGNS = ("<", "<=")


def is_integer(value):
    """Whether a value is an integer, which True and False are not."""
    return isinstance(value, int) and not isinstance(value, bool)


def is_name(value):
    """Whether a value is a name."""
    if not isinstance(value, str) or not 1 <= len(value) <= LONGEST_NAME:
        return False
    return value[0] in LETTERS and all([sign in LETTERS or sign in DIGITS for sign in value])


def integer_of(word):
    """The integer from 0 to MOST_INTEGER that is written so."""
    # The length goes first: Python itself refuses to read very long numbers.
    if not 1 <= len(word) <= len(str(MOST_INTEGER)) or not all([sign in DIGITS for sign in word]):
        return None
    number = int(word)
    return number if str(number) == word and number <= MOST_INTEGER else None


def place_of(word, most):
    """The integer from 1 to `most`, below ten, that is written so."""
    if len(word) != 1 or word not in DIGITS:
        return None
    place = int(word)
    return place if 1 <= place <= most else None


def part_of(word, names):
    """The part that is written so: a name as a string, an integer as one."""
    return word if word in names else integer_of(word)


def term_of(text, names):
    """The term that is written so, over these names: its order, its K, and the tuple of its parts."""
    words = text.split(" ")
    many = len(words) - 2
    if words[0] not in ORDERS or not 1 <= many <= MOST_PARTS:
        return None
    place = place_of(words[1], many)
    parts = [part_of(word, names) for word in words[2:]]
    if place is None or None in parts:
        return None
    return words[0], place, tuple(parts)


def condition_of(text, names):
    """The condition `if P < Q` or `if P <= Q`: its P, its sign, and its Q."""
    words = text.split(" ")
    if len(words) != 4 or words[0] != "if" or words[2] not in SIGNS:
        return None
    left = part_of(words[1], names)
    right = part_of(words[3], names)
    if left is None or right is None:
        return None
    return left, words[2], right


def done_of(text, seats, names):
    """What is done in a row: ("keep",), or ("sell", WHO, P) with a seat or the integer K as WHO."""
    if text == "keep":
        return ("keep",)
    words = text.split(" ")
    if len(words) != 4 or words[0] != "sell" or words[2] != "at":
        return None
    who = words[1] if words[1] in seats else place_of(words[1], len(seats))
    price = part_of(words[3], names)
    if who is None or price is None:
        return None
    return "sell", who, price


def step_of(row, seats, names, is_last):
    """The pair of a row's condition, which is None in the last one, and of what is done there."""
    if not isinstance(row, str):
        return None
    if is_last:
        done = done_of(row, seats, names)
        return None if done is None else (None, done)
    head, mark, rest = row.partition(": ")
    condition = condition_of(head, names)
    done = done_of(rest, seats, names)
    if condition is None or done is None:
        return None
    return condition, done
