"""The errors of the package: their attributes, their base classes, and how they are caught."""

import inspect
import unittest

from chargeways import errors

FRONTS = {"WayError": ValueError, "StandError": RuntimeError, "LimitError": ArithmeticError}

ERRORS = {
    "WayError": [
        ("InvalidGroup", ["value"]), ("InvalidParents", ["position"]), ("InvalidStruck", ["position"]),
        ("InvalidKind", ["value"]), ("InvalidRow", ["kind", "value"]), ("InvalidWord", ["name", "value"]),
        ("InvalidHolds", ["value"]), ("InvalidHand", ["value"]), ("InvalidThing", ["value"]),
        ("InvalidLimit", ["value"]), ("InvalidCount", ["value"]), ("InvalidUnit", ["value"]),
        ("InvalidState", ["value"]), ("InvalidWish", ["value"]), ("InvalidWishes", ["value"]),
        ("InvalidDeed", ["value"]), ("InvalidText", ["line"]), ("InvalidClaim", ["value"]),
        ("InvalidCommand", ["value"])],
    "StandError": [
        ("IsTop", []), ("Struck", ["group"]), ("NotStruck", ["group"]), ("HasChildren", ["group"]),
        ("AtWork", ["hand"]), ("NoWalk", ["hand"]), ("MustSettle", ["hand"]), ("NoStock", ["hand"]),
        ("NotYours", ["hand"]), ("NotLiving", ["thing"]), ("NoRow", ["kind"]), ("UnderWay", ["thing", "kind"]),
        ("Held", ["thing", "kind"]), ("NotKept", ["wish"]), ("NoEnd", []), ("Untrue", []), ("NothingToUndo", []),
        ("DeedFailed", ["position"]), ("CommandFailed", ["position"])],
    "LimitError": [("TooMany", ["what", "limit"])],
}

ANY_VALUES = [0, -7, 10 ** 30, True, False, None, "", "take", "two\nlines", b"x", [], [1, [2]], (), ("a", None),
              {"a": [1]}, {1, 2}, object(), ValueError, ValueError("x"), len]


def all_errors():
    return [(front, name, names) for front, rows in ERRORS.items() for name, names in rows]


class TestErrors(unittest.TestCase):

    def test_there_are_thirty_nine_and_three(self):
        self.assertEqual(len(all_errors()), 39)
        for name in list(FRONTS) + [name for _, name, _ in all_errors()]:
            with self.subTest(name):
                found = getattr(errors, name)
                self.assertTrue(inspect.isclass(found))
                self.assertEqual((found.__name__, found.__module__), (name, "chargeways.errors"))

    def test_base_classes(self):
        for name, base in FRONTS.items():
            self.assertEqual(getattr(errors, name).__bases__, (base,))
        for front, name, _ in all_errors():
            with self.subTest(name):
                self.assertEqual(getattr(errors, name).__bases__, (getattr(errors, front),))

    def test_attributes_by_place_and_by_name_with_any_values(self):
        for _, name, names in all_errors():
            for at, value in enumerate(ANY_VALUES):
                values = [value, ANY_VALUES[at - 1]][:len(names)]
                for made in (getattr(errors, name)(*values), getattr(errors, name)(**dict(zip(names, values)))):
                    with self.subTest(name, value=value):
                        for told, passed in zip(names, values):
                            self.assertEqual(getattr(made, told), passed)
                            self.assertIs(type(getattr(made, told)), type(passed))

    def test_attributes_are_of_each_error_by_itself(self):
        for _, name, names in all_errors():
            first = getattr(errors, name)(*["first"] * len(names))
            getattr(errors, name)(*["second"] * len(names))
            self.assertEqual([getattr(first, told) for told in names], ["first"] * len(names))

    def test_caught_by_the_class_in_front_and_by_no_other(self):
        for front, name, names in all_errors():
            with self.subTest(name):
                values = list(range(len(names)))
                for caught in (getattr(errors, name), getattr(errors, front), FRONTS[front]):
                    with self.assertRaises(caught) as held:
                        raise getattr(errors, name)(*values)
                    self.assertEqual([getattr(held.exception, told) for told in names], values)
                for other in FRONTS:
                    if other != front:
                        self.assertFalse(issubclass(getattr(errors, name), getattr(errors, other)))
                        self.assertFalse(issubclass(getattr(errors, name), FRONTS[other]))


if __name__ == "__main__":
    unittest.main()
