"""[0.1]: what is an integer and what is a sequence."""

import unittest

from helper import OTHER_KINDS
from knownguards.wholes import is_ascending, is_sequence, is_whole


class WholesTest(unittest.TestCase):
    def test_integers_without_bounds(self):
        for number in (0, 1, -1, 10 ** 100, -10 ** 100):
            self.assertIs(is_whole(number), True)

    def test_bounds_are_within(self):
        table = (
            ((5, 5, 5), True), ((5, 5), True), ((4, 5), False), ((6, 5), True),
            ((5, None, 5), True), ((6, None, 5), False), ((-9, None, 5), True),
            ((0, 0, 0), True), ((1, 0, 0), False), ((-1, 0, 0), False),
            ((0, None, 0), True), ((1, None, 0), False), ((-1, 0), False), ((-1, -1, -1), True),
            ((3, 4, 2), False), ((7, None, None), True),
        )
        for arguments, expected in table:
            with self.subTest(arguments):
                self.assertIs(is_whole(*arguments), expected)

    def test_bounds_by_name(self):
        self.assertIs(is_whole(3, low=3), True)
        self.assertIs(is_whole(3, high=2), False)

    def test_true_and_false_and_other_kinds_are_no_integers(self):
        for thing in (*OTHER_KINDS, [], (), (1,), [0]):
            with self.subTest(repr(thing)):
                self.assertIs(is_whole(thing), False)
                self.assertIs(is_whole(thing, 0, 1), False)

    def test_lists_and_tuples_are_sequences(self):
        for thing in ([], (), [1], (1, 2), [[]]):
            self.assertIs(is_sequence(thing), True)

    def test_nothing_else_is_a_sequence(self):
        for thing in (*OTHER_KINDS, "ab", {1, 2}, {1: 2}.keys(), iter([1]), 0):
            with self.subTest(repr(thing)):
                self.assertIs(is_sequence(thing), False)

    def test_ascending_rows(self):
        for row in ((), [], (3,), (1, 2, 9), [-1, 0], ((0,), (0, 1), (1,)), ["a", "b"]):
            self.assertIs(is_ascending(row), True)
        for row in ((1, 1), [2, 1], (1, 3, 2), ((0,), (0,)), ("b", "a", "c")):
            self.assertIs(is_ascending(row), False)


if __name__ == "__main__":
    unittest.main()
