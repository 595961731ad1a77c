"""Zones, against all numbers of small ones."""

import itertools
import random
import unittest

from salebids.zones import ENDLESS, compared, greatest_sum, halves, joined, least_numbers, narrowed, reaching
from salebids.zones import whole_zone

TOP = 5


def some_zone(dice, many):
    """A zone over `many` numbers up to TOP, and the list of all numbers in it."""
    while True:
        zone = whole_zone(many, TOP)
        points = [(0, *rest) for rest in itertools.product(range(TOP + 1), repeat=many - 1)]
        for _ in range(dice.randint(0, 4)):
            x, y = dice.sample(range(many), 2)
            most = dice.randint(-3, 3)
            zone = zone and narrowed(zone, x, y, most)
            points = [point for point in points if point[x] - point[y] <= most]
        if points:
            return zone, points
        assert zone is None


def worth(point, plus, minus):
    return sum(point[at] + more for at, more in plus) - sum(point[at] + more for at, more in minus)


class Zones(unittest.TestCase):
    def test_entries_are_the_greatest_differences(self):
        dice = random.Random(1)
        for _ in range(200):
            many = dice.randint(2, 4)
            zone, points = some_zone(dice, many)
            for x, y in itertools.product(range(many), repeat=2):
                self.assertEqual(zone[x][y], max(point[x] - point[y] for point in points))
            self.assertEqual(least_numbers(zone), tuple(min(point[at] for point in points) for at in range(many)))
            self.assertIn(least_numbers(zone), points)

    def test_marks(self):
        dice = random.Random(2)
        for _ in range(400):
            many = dice.randint(2, 4)
            zone, points = some_zone(dice, many)
            left, right = [(dice.randrange(many), dice.randint(-2, 2)) for _ in range(2)]
            above = [worth(point, [left], [right]) >= 0 for point in points]
            answer = compared(zone, left, right)
            self.assertEqual(answer, True if all(above) else None if any(above) else False)
            if answer is None:
                parts = halves(zone, left, right)
                for part, wanted in zip(parts, (True, False)):
                    inside = [point for point, told in zip(points, above) if told == wanted]
                    self.assertIn(least_numbers(part), inside)
                    for x, y in itertools.product(range(many), repeat=2):
                        self.assertEqual(part[x][y], max(point[x] - point[y] for point in inside))

    def test_sums(self):
        dice = random.Random(3)
        for _ in range(600):
            many = dice.randint(2, 4)
            zone, points = some_zone(dice, many)
            plus, minus = [
                tuple((dice.randrange(many), dice.randint(-2, 2)) for _ in range(dice.randint(0, 2))) for _ in range(2)
            ]
            top = greatest_sum(zone, plus, minus)
            self.assertEqual(top, max(worth(point, plus, minus) for point in points))
            for least in (top, top - 1, top - 9):
                numbers = reaching(zone, plus, minus, least)
                self.assertIn(numbers, points)
                self.assertGreaterEqual(worth(numbers, plus, minus), least)

    def test_sums_without_a_bound(self):
        zone = whole_zone(5)
        for plus, minus in (
            (((1, 0),), ()), (((1, 0),), ((2, 0),)), (((1, 0), (2, 0)), ((3, 0), (4, 0))), (((1, 4), (2, 0)), ((1, 9),)),
            (((2, 0), (1, 0)), ((1, 0), (3, 7))),
        ):
            for part in (zone, narrowed(zone, 1, 0, 7), narrowed(zone, 2, 3, 4), narrowed(zone, 3, 1, -2)):
                if greatest_sum(part, plus, minus) == ENDLESS:
                    for least in (0, 1, 10 ** 12, 10 ** 39):
                        numbers = reaching(part, plus, minus, least)
                        self.assertGreaterEqual(worth(numbers, plus, minus), least)
                        self.assertTrue(all(number >= 0 for number in numbers))
                        for x, y in itertools.product(range(5), repeat=2):
                            self.assertLessEqual(numbers[x] - numbers[y], part[x][y])
        self.assertEqual(greatest_sum(zone, ((1, 0),), ()), ENDLESS)
        self.assertEqual(greatest_sum(zone, (), ((1, 0),)), 0)
        self.assertEqual(greatest_sum(zone, ((1, 3),), ((1, 5),)), -2)
        self.assertEqual(greatest_sum(narrowed(zone, 1, 2, 4), ((1, 0),), ((2, 0),)), 4)

    def test_joined_zones(self):
        dice = random.Random(4)
        for _ in range(200):
            one, points = some_zone(dice, 3)
            other, others = some_zone(dice, 3)
            both = joined(one, other, [0, 1, 3])
            wanted = [point + more[2:] for point in points for more in others if point[1] == more[1]]
            if not wanted:
                self.assertIsNone(both)
                continue
            for x, y in itertools.product(range(4), repeat=2):
                self.assertEqual(both[x][y], max(point[x] - point[y] for point in wanted))


if __name__ == "__main__":
    unittest.main()
