"""The order of rows of sets in [6.3], [6.7] and [9.3], and the least and the greatest sets that fit."""

import unittest

from helper import all_sets, greatest_of, least_of
from knownguards.subsets import all_subsets, greatest_subsets, in_order, is_within, least_subsets


class SubsetsTest(unittest.TestCase):
    def test_all_sets_in_order(self):
        self.assertEqual(all_subsets(()), [()])
        self.assertEqual(all_subsets((3, 5, 7)), [(), (3,), (5,), (7,), (3, 5), (3, 7), (5, 7), (3, 5, 7)])
        for many in range(10):
            things = tuple((many, thing) for thing in range(many))
            self.assertEqual(all_subsets(things), all_sets(things))
            self.assertEqual(in_order(sorted(all_subsets(things))), all_sets(things))

    def test_within(self):
        self.assertTrue(is_within((), ()))
        self.assertTrue(is_within((1,), (0, 1)))
        self.assertFalse(is_within((1, 2), (0, 1)))

    def test_least_and_greatest_also_where_more_does_not_fit(self):
        things = tuple(range(5))
        sets = all_sets(things)
        for mark in range(2 ** 10):
            fitting = [chosen for at, chosen in enumerate(sets) if mark >> at % 10 & 1]
            self.assertEqual(least_subsets(things, lambda chosen: chosen in fitting), least_of(fitting))
            self.assertEqual(greatest_subsets(things, lambda chosen: chosen in fitting), greatest_of(fitting))

    def test_none_fits(self):
        self.assertEqual(least_subsets((0, 1), lambda chosen: False), ())
        self.assertEqual(greatest_subsets((0, 1), lambda chosen: False), ())


if __name__ == "__main__":
    unittest.main()
