import unittest

from salebids import limits


class Limits(unittest.TestCase):
    def test_each_limit_is_the_integer_of_the_interface(self):
        expected = {
            "MOST_SEATS": 4, "MOST_LINES": 8, "MOST_ROWS": 6, "MOST_PARTS": 6, "MOST_RING": 3,
            "MOST_INTEGER": 1000000000000, "MOST_CHANGES": 6,
        }
        found = {name: getattr(limits, name) for name in vars(limits) if name.isupper()}
        self.assertEqual(found, expected)
        self.assertTrue(all(number.__class__ is int for number in found.values()))


if __name__ == "__main__":
    unittest.main()
