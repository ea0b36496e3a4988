"""[0.7] and the interface of knownguards/errors.py."""

import inspect
import unittest

from knownguards import errors

ATTRIBUTES = {
    "BadStep": ("what",),
    "BadLot": ("what",),
    "NoProgram": ("program",),
    "NoStep": ("program", "place"),
    "BadWeaving": ("what",),
    "BadRow": ("index",),
    "BadSizes": (),
    "BadFact": ("index",),
    "BadText": (),
    "TooMany": ("count",),
    "TooLong": ("steps",),
    "BadOrder": (),
    "OrderTurned": ("meeting",),
    "BadHouse": ("worth",),
    "BadSmallStore": (),
    "BadMeaning": ("what",),
    "BadStore": (),
    "BadStores": ("index",),
    "NotKept": ("program", "store"),
    "BadPool": ("index",),
    "BadWish": ("index",),
    "BadGuard": (),
    "NotAll": ("weaving",),
    "BadAsk": ("what",),
    "UnlikeLots": (),
    "NotHeld": ("program",),
    "LateLook": ("program", "place"),
    "BadEdit": ("index", "what"),
    "BadGoal": ("index",),
    "BadMendPool": ("index",),
    "NothingMade": (),
}


class ErrorsTest(unittest.TestCase):
    def test_guard_error_is_straight_under_value_error(self):
        self.assertEqual(errors.GuardError.__bases__, (ValueError,))

    def test_all_errors_and_no_others_are_there(self):
        found = {name for name, _ in inspect.getmembers(errors, inspect.isclass)}
        self.assertEqual(found, {"GuardError", *ATTRIBUTES})

    def test_each_error_is_straight_under_guard_error(self):
        for name in ATTRIBUTES:
            with self.subTest(name):
                self.assertEqual(getattr(errors, name).__bases__, (errors.GuardError,))

    def test_attributes_are_taken_in_order_and_not_checked(self):
        anything = (object(), ["list"])
        for name, attributes in ATTRIBUTES.items():
            with self.subTest(name):
                given = anything[:len(attributes)]
                error = getattr(errors, name)(*given)
                self.assertEqual(vars(error), dict(zip(attributes, given)))

    def test_errors_are_caught_as_guard_error_and_value_error(self):
        for kind in (errors.GuardError, ValueError):
            with self.subTest(kind), self.assertRaises(kind):
                raise errors.NoStep(0, 1)


if __name__ == "__main__":
    unittest.main()
