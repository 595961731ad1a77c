"""The greatest numbers of what a rule and a call may hold."""

MOST_SEATS = 4
MOST_LINES = 8
MOST_ROWS = 6
MOST_PARTS = 6
MOST_RING = 3
MOST_INTEGER = 10 ** 12
MOST_CHANGES = 6
