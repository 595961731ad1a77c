"""Zones: sets of numbers that are told by conditions x - y <= c.

The numbers of a zone are integers from 0 on; the one with the index 0 is always 0 itself. A zone is a tuple of rows:
zone[x][y] is the greatest value of number x less number y, or ENDLESS if there is none; so it holds the shortest ways
along its conditions. No zone is empty: None stands where nothing is left. A mark (x, c) stands for number x plus c.
"""

# More than any sum of written integers and steps. It is compared by == alone with what may be farther off, like limits.
ENDLESS = 10 ** 60


def whole_zone(many, most=None):
    """The zone of all numbers from 0 on, `many` with that at the index 0; with `most`, of those up to it."""
    top = ENDLESS if most is None else most
    return tuple([tuple([0 if x == 0 or x == y else top for y in range(many)]) for x in range(many)])


def narrowed(zone, x, y, most):
    """The zone in which number x less number y is at most `most`, too; None if nothing is left."""
    if zone[x][y] <= most:
        return zone
    if zone[y][x] != ENDLESS and zone[y][x] + most < 0:
        return None
    return tuple([shortened(row, x, y, most, zone[y]) for row in zone])


def shortened(row, x, y, most, onward):
    """A row of a zone with the way from x to y as well; `onward` is the row of y."""
    if row[x] == ENDLESS or row[x] + most >= row[y]:
        return row
    return by_way(row, row[x] + most, onward)


def by_way(row, far, onward):
    """The lesser ones of what stands in a row, and of `far` with what stands in the row `onward`."""
    return tuple([old if step == ENDLESS or old <= far + step else far + step for old, step in zip(row, onward)])


def settled(rows):
    """The zone of the conditions in the rows, which need not hold the shortest ways yet; None if it is empty."""
    for at in range(len(rows)):
        if rows[at][at] < 0:
            return None
        onward = rows[at]
        rows = [row if row[at] == ENDLESS else by_way(row, row[at], onward) for row in rows]
    return tuple(rows)


def joined(one, other, places):
    """The zone with the conditions of both, number x of the other one being number places[x] here; None if empty."""
    many = max([len(one)] + [place + 1 for place in places])
    rows = [[0 if x == y else ENDLESS for y in range(many)] for x in range(many)]
    for x, row in enumerate(one):
        rows[x][:len(row)] = list(row)
    for x, row in zip(places, other):
        for y, far in zip(places, row):
            rows[x][y] = min(rows[x][y], far)
    return settled(rows)


def compared(zone, left, right):
    """True if the mark `left` is at least the mark `right` in all of the zone, False if it is less there, else None."""
    x, more = left
    y, less = right
    if zone[y][x] <= more - less:
        return True
    if zone[x][y] < less - more:
        return False
    return None


def halves(zone, left, right):
    """The zones in which the mark `left` is at least `right`, and in which it is less; None where nothing is left."""
    x, more = left
    y, less = right
    return [narrowed(zone, y, x, more - less), narrowed(zone, x, y, less - more - 1)]


def lies_in(zone, other):
    """Whether a zone is a part of another one over as many numbers."""
    for row, wide in zip(zone, other):
        for far, most in zip(row, wide):
            if far > most:
                return False
    return True


def are_apart(one, other, shared):
    """Whether it is seen at once that two zones, with their first `shared` numbers in common, share no others."""
    for x in range(shared):
        for y in range(shared):
            if one[x][y] + other[y][x] < 0:
                return True
    return False


def least_numbers(zone):
    """The least numbers of a zone, all at once; they lie in it."""
    return tuple([-far for far in zone[0]])


def two_of(marks):
    """Up to two marks, filled up with 0 to two of them."""
    return (list(marks) + [(0, 0), (0, 0)])[:2]


def added(one, other):
    """The sum of two entries of a zone."""
    return ENDLESS if ENDLESS in (one, other) else one + other


def greatest_sum(zone, plus, minus):
    """The greatest value of up to two marks less up to two others, ENDLESS if there is none."""
    (x, a), (z, b) = two_of(plus)
    (y, c), (w, d) = two_of(minus)
    top = min(added(zone[x][y], zone[z][w]), added(zone[x][w], zone[z][y]))
    return ENDLESS if top == ENDLESS else top + a + b - c - d


def reaching(zone, plus, minus, least):
    """Numbers of a zone for which the marks `plus` less those in `minus` are at least `least`, where there are some."""
    (x, a), (z, b) = two_of(plus)
    (y, c), (w, d) = two_of(minus)
    need = least - a - b + c + d
    share = zone[x][y]
    if share == ENDLESS:
        # Without a bound x - y takes over just what z - w cannot bring.
        share = 0 if zone[z][w] == ENDLESS else max(0, need - zone[z][w])
    part = narrowed(zone, y, x, -share)
    return least_numbers(narrowed(part, w, z, share - need))
