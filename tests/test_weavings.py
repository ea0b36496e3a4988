"""[1.5] and [1.6]: weavings and rows of wholes."""

from itertools import permutations
from math import factorial
import unittest

from helper import OTHER_KINDS, GuardCase, blind_lot
from knownguards.errors import BadLot, BadRow, BadSizes, BadWeaving, NoProgram
from knownguards.lots import Lot
from knownguards.weavings import (
    all_weavings, check_row, check_weaving, is_unwoven, placed_steps, row_weaving, unwoven_weavings,
    weaving_count, weaving_without,
)

ALL_SIZES = [
    sizes
    for sizes in [
        *[(one,) for one in range(1, 5)],
        *[(one, other) for one in range(1, 5) for other in range(1, 5)],
        *[(one, other, third) for one in range(1, 5) for other in range(1, 5) for third in range(1, 5)],
    ]
    if sum(sizes) <= 7
]


def rows_of(sizes):
    """All weavings of programs of these sizes, ascending, found by trying out."""
    row = [program for program, size in enumerate(sizes) for _ in range(size)]
    return tuple(sorted(set(permutations(row))))


class CheckWeavingTest(GuardCase):
    lot = blind_lot(2, 1)

    def bad(self, what, weaving):
        for call in (check_weaving, is_unwoven, placed_steps):
            with self.subTest(call.__name__, weaving=repr(weaving)):
                self.refuses(BadWeaving, {"what": what}, call, self.lot, weaving)
        self.refuses(BadWeaving, {"what": what}, weaving_without, self.lot, weaving, 0)

    def test_weavings_are_returned_as_tuples(self):
        for weaving in ((0, 0, 1), (0, 1, 0), (1, 0, 0)):
            self.assertEqual(check_weaving(self.lot, weaving), weaving)
            given = list(weaving)
            self.assertEqual(check_weaving(self.lot, given), weaving)
            self.assertEqual(given, list(weaving))

    def test_form(self):
        for weaving in (*OTHER_KINDS, 0, "001", {0: 0, 1: 0}, iter((0, 0, 1))):
            self.bad("form", weaving)
        for wrong in (*OTHER_KINDS, -1, 2, (0,), [1]):
            for weaving in ((wrong, 0, 1), (0, wrong, 1), [0, 0, wrong]):
                self.bad("form", weaving)

    def test_length(self):
        for weaving in ((), [], (0,), (0, 1), (0, 0), (0, 0, 0), (0, 1, 1), (0, 0, 1, 1), (0, 0, 0, 1), [1, 0] * 50):
            self.bad("length", weaving)

    def test_form_is_told_ahead_of_length(self):
        for weaving in ((2,), (0, 0, 0, 0, -1), (True, 0), (0, None), (0, 0, 1, False)):
            self.bad("form", weaving)


class CheckRowTest(GuardCase):
    lot = blind_lot(2, 1, 3)

    def bad(self, index, row):
        for call in (check_row, row_weaving):
            with self.subTest(call.__name__, row=repr(row)):
                self.refuses(BadRow, {"index": index}, call, self.lot, row)

    def test_rows_of_any_length(self):
        for row in ((), (0,), (2,), (1, 1, 1), (2, 0), (0, 1, 2), (0,) * 1000):
            self.assertEqual(check_row(self.lot, row), row)
            self.assertEqual(check_row(self.lot, list(row)), row)

    def test_no_sequence(self):
        for row in (*OTHER_KINDS, 0, "0", {0: 0}, iter((0,))):
            self.bad(-1, row)

    def test_the_first_wrong_item_is_told(self):
        for wrong in (*OTHER_KINDS, -1, 3, (0,)):
            self.bad(0, (wrong,))
            self.bad(0, (wrong, 0, wrong))
            self.bad(2, [1, 2, wrong])
            self.bad(1, [1, wrong, 2, 7])

    def test_row_weaving(self):
        for row, steps in (
            ((), ()), ((0,), (0, 0)), ((1,), (1,)), ((2, 0), (2, 2, 2, 0, 0)), ((1, 0, 1), (1, 0, 0, 1)),
            ([0, 0], (0, 0, 0, 0)),
        ):
            self.assertEqual(row_weaving(self.lot, row), steps)


class AllWeavingsTest(GuardCase):
    def test_all_weavings_ascending(self):
        for sizes in ALL_SIZES:
            with self.subTest(sizes):
                self.assertEqual(all_weavings(blind_lot(*sizes)), rows_of(sizes))

    def test_the_most_weavings(self):
        for sizes in ((3, 2, 2), (2, 3, 2), (2, 2, 3)):
            self.assertEqual(len(all_weavings(blind_lot(*sizes))), 210)

    def test_is_unwoven(self):
        for sizes in ALL_SIZES:
            lot = blind_lot(*sizes)
            for weaving in rows_of(sizes):
                joints = sum(one != other for one, other in zip(weaving, weaving[1:]))
                self.assertIs(is_unwoven(lot, weaving), joints == len(sizes) - 1)
                self.assertIs(is_unwoven(lot, list(weaving)), joints == len(sizes) - 1)

    def test_unwoven_weavings_ascending(self):
        for sizes in ALL_SIZES:
            lot = blind_lot(*sizes)
            rows = tuple(row_weaving(lot, row) for row in permutations(range(len(sizes))))
            self.assertEqual(unwoven_weavings(lot), tuple(sorted(rows)))


class WeavingCountTest(GuardCase):
    def test_it_counts_all_weavings_of_each_lot(self):
        for sizes in ALL_SIZES:
            lot = blind_lot(*sizes)
            self.assertEqual(weaving_count(lot.sizes), len(rows_of(sizes)))

    def test_great_sizes(self):
        for sizes in ((1,), (20,), (20, 20), [1] * 9, (20,) * 9, [20, 1, 19, 2, 18, 3, 17, 4, 16], (7, 1, 20)):
            expected = factorial(sum(sizes))
            for size in sizes:
                expected //= factorial(size)
            self.assertEqual(weaving_count(sizes), expected)

    def test_bad_sizes(self):
        for sizes in (*OTHER_KINDS, (), [], (1,) * 10, [20] * 11, 5, "11", {1: 1}):
            self.refuses(BadSizes, {}, weaving_count, sizes)
        for wrong in (*OTHER_KINDS, 0, -1, 21, 1000, (1,)):
            for sizes in ((wrong,), (wrong, 1), (1, wrong), [3, wrong, 3], (1,) * 8 + (wrong,)):
                self.refuses(BadSizes, {}, weaving_count, sizes)


class PlacedStepsTest(GuardCase):
    def test_couples(self):
        self.assertEqual(placed_steps(blind_lot(2, 1), [0, 1, 0]), ((0, 0), (1, 0), (0, 1)))
        self.assertEqual(placed_steps(blind_lot(3), (0, 0, 0)), ((0, 0), (0, 1), (0, 2)))
        self.assertEqual(
            placed_steps(blind_lot(2, 1, 2), (2, 0, 1, 2, 0)), ((2, 0), (0, 0), (1, 0), (2, 1), (0, 1))
        )


class WeavingWithoutTest(GuardCase):
    def test_each_program_may_be_struck_out(self):
        lot = blind_lot(2, 1, 2)
        weaving = [2, 0, 1, 2, 0]
        self.assertEqual(weaving_without(lot, weaving, 0), (1, 0, 1))
        self.assertEqual(weaving_without(lot, weaving, 1), (1, 0, 1, 0))
        self.assertEqual(weaving_without(lot, weaving, 2), (0, 1, 0))
        self.assertEqual(weaving, [2, 0, 1, 2, 0])

    def test_it_is_a_weaving_of_the_lot_without(self):
        for sizes in ALL_SIZES:
            lot = blind_lot(*sizes)
            for program in range(len(sizes)) if len(sizes) > 1 else ():
                rest = lot.without_program(program)
                left = {weaving_without(lot, weaving, program) for weaving in rows_of(sizes)}
                self.assertEqual(tuple(sorted(left)), all_weavings(rest))

    def test_errors_in_their_order(self):
        lot = blind_lot(1, 1)
        for program in (*OTHER_KINDS, -1, 2):
            self.refuses(NoProgram, {"program": program}, weaving_without, lot, (0, 1), program)
            self.refuses(BadWeaving, {"what": "length"}, weaving_without, lot, (0,), program)
            self.refuses(BadWeaving, {"what": "form"}, weaving_without, lot, None, program)
        alone = Lot(1, (((0, "any", (), 0),),))
        self.refuses(BadLot, {"what": "programs"}, weaving_without, alone, (0,), 0)
        self.refuses(NoProgram, {"program": 1}, weaving_without, alone, (0,), 1)
        self.refuses(BadWeaving, {"what": "length"}, weaving_without, alone, (), 0)


if __name__ == "__main__":
    unittest.main()
