import unittest

from salebids import errors
from tests.samples import odd_values

WITH_GIVEN = {
    "BadValue": (
        "InvalidText", "InvalidName", "InvalidNumber", "InvalidQuestion", "InvalidCase", "InvalidChange",
        "InvalidWish", "InvalidIndex", "NotARule", "OtherSeats",
    ),
    "BadName": ("UnknownName",),
    "NoAnswer": (),
}
WITH_INDEX = {
    "BadValue": ("InvalidSeats", "InvalidLines", "InvalidRows", "InvalidBids", "InvalidChanges"),
    "BadName": ("InUse",),
    "NoAnswer": ("Broken",),
}
BASES = {"BadValue": ValueError, "BadName": LookupError, "NoAnswer": ArithmeticError}


def listed(table):
    return [(base, name) for base in table for name in table[base]]


class Errors(unittest.TestCase):
    def test_there_are_these_classes_and_no_others(self):
        every = [*BASES, "NothingToUndo", *[name for base, name in listed(WITH_GIVEN) + listed(WITH_INDEX)]]
        self.assertEqual(sorted(name for name in vars(errors) if not name.startswith("_")), sorted(every))

    def test_the_base_classes_stand_below_those_of_python(self):
        for name, above in BASES.items():
            self.assertEqual(getattr(errors, name).__bases__, (above,))
            self.assertIsInstance(getattr(errors, name)(), above)

    def test_each_class_belongs_to_its_base_class_and_to_no_other_one(self):
        rows = listed(WITH_GIVEN) + listed(WITH_INDEX) + [("NoAnswer", "NothingToUndo")]
        for base, name in rows:
            own = [kind.__name__ for kind in getattr(errors, name).__mro__ if kind.__module__ == errors.__name__]
            self.assertEqual(own, [name, base])

    def test_given_is_set_by_position_and_by_name(self):
        self.check_attribute(listed(WITH_GIVEN), "given")

    def test_index_is_set_by_position_and_by_name(self):
        self.check_attribute(listed(WITH_INDEX), "index")

    def check_attribute(self, rows, attribute):
        for base, name in rows:
            kind = getattr(errors, name)
            for value in odd_values():
                self.assertIs(getattr(kind(value), attribute), value)
                self.assertIs(getattr(kind(**{attribute: value}), attribute), value)
                self.assertTrue(kind(value))
            self.assertEqual(list(vars(kind(5))), [attribute])
            self.assertRaises(TypeError, kind)
            self.assertRaises(TypeError, kind, 1, 2)

    def test_nothing_to_undo_has_no_attribute(self):
        self.assertEqual(vars(errors.NothingToUndo()), {})
        self.assertTrue(errors.NothingToUndo())

    def test_two_errors_are_never_equal(self):
        one = errors.InvalidText(5)
        self.assertTrue(one == one)
        self.assertFalse(one != one)
        self.assertFalse(one == errors.InvalidText(5))
        self.assertTrue(one != errors.InvalidText(5))


if __name__ == "__main__":
    unittest.main()
