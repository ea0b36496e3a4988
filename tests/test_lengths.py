"""[3.1] to [3.3], [0.5]: lengths."""

import unittest

from helper import OTHER_KINDS, GuardCase, blind_lot, made_up_lots, places_of
from knownguards.errors import BadWeaving
from knownguards.lengths import House, lengths_bar, split_of
from knownguards.lots import Lot
from knownguards.lottexts import lot_of_text
from knownguards.weavings import all_weavings, is_unwoven, placed_steps, unwoven_weavings

LOTS = [blind_lot(*sizes) for sizes in (
    (1,), (4,), (1, 1), (2, 1), (1, 2), (2, 2), (3, 2), (4, 3), (1, 1, 1), (2, 1, 1), (1, 2, 1), (2, 2, 2), (2, 2, 3),
)]


def held(house, steps):
    """What the cell of the house holds at each moment, by its own lot and tables."""
    worths = [house.start[0]]
    for program, place in steps:
        _, _, _, name = house.lot.programs[program][place]
        worths.append(house.tables[name][worths[-1]])
    return worths


class SplitTest(GuardCase):
    def test_what_is_split_first(self):
        lot = blind_lot(2, 3, 1)
        for weaving, split in (
            ((0, 0, 1, 1, 1, 2), None),
            ((1, 1, 1, 2, 0, 0), None),
            ((0, 1, 0, 1, 1, 2), (0, 0, 1, 0)),
            ((1, 0, 1, 1, 0, 2), (0, 0, 1, 1)),
            ((1, 0, 0, 1, 1, 2), (1, 0, 0, 0)),
            ((1, 1, 0, 0, 1, 2), (1, 1, 0, 0)),
            ((0, 0, 1, 1, 2, 1), (1, 1, 2, 0)),
            ((1, 2, 1, 0, 0, 1), (1, 0, 2, 0)),
            ((1, 0, 2, 1, 0, 1), (0, 0, 2, 0)),
            ([1, 0, 2, 1, 0, 1], (0, 0, 2, 0)),
        ):
            self.assertEqual(split_of(lot, weaving), split)

    def test_every_weaving(self):
        for lot in LOTS + made_up_lots(30, "splits"):
            for weaving in all_weavings(lot):
                steps = placed_steps(lot, weaving)
                splits = [
                    (*ahead, *behind) for ahead, behind in zip(steps, steps[1:])
                    if ahead[0] != behind[0] and (ahead[0], ahead[1] + 1) in steps
                ]
                self.assertEqual(split_of(lot, weaving), min(splits, default=None))

    def test_only_lengths_matter(self):
        for lot in made_up_lots(30, "lengths"):
            blind = blind_lot(*lot.sizes)
            for weaving in all_weavings(lot):
                self.assertEqual(split_of(lot, weaving), split_of(blind, weaving))
                self.assertEqual(lengths_bar(lot, weaving), lengths_bar(blind, weaving))


class BarTest(GuardCase):
    def test_the_example_of_the_document(self):
        lot = lot_of_text("2: any 0 as 0; any 1 as 1 | any 0 as 2; any 1 as 3")
        house = lengths_bar(lot, (0, 1, 0, 1))
        self.assertEqual(split_of(lot, (0, 1, 0, 1)), (0, 0, 1, 0))
        self.assertEqual(split_of(lot, (0, 1, 1, 0)), (0, 0, 1, 0))
        self.assertEqual(house, lengths_bar(lot, [0, 1, 1, 0]))
        self.assertEqual(house.lot, Lot(1, (
            ((0, "any", (0,), 0), (0, "any", (1,), 1)), ((0, "any", (0,), 2), (0, "any", (1,), 3)),
        )))
        self.assertEqual(
            repr((house.modulus, house.tables, house.start, house.stores)),
            "(3, ((1, 2, 0), (2, 0, 1), (0, 2, 1), (0, 1, 2)), (0,), ((0,),))",
        )

    def test_tables_stand_in_order_of_names(self):
        house = lengths_bar(blind_lot(1, 3, 3), (0, 1, 1, 2, 2, 1, 2))
        stays, adds, takes, doubles = (0, 1, 2), (1, 2, 0), (2, 0, 1), (0, 2, 1)
        self.assertEqual(house.tables, (stays, stays, adds, takes, doubles, stays, stays))
        self.assertEqual(house.lot.programs[1], ((0, "any", (0,), 1), (0, "any", (1,), 2), (0, "any", (2,), 3)))

    def test_each_program_leads_0_to_0_and_the_weaving_over_1_and_2_to_1(self):
        for lot in LOTS:
            for weaving in all_weavings(lot):
                house = lengths_bar(lot, weaving)
                self.assertEqual(house is None, is_unwoven(lot, weaving))
                if house is None:
                    continue
                self.assertEqual((house.lot.sizes, house.lot.cells), (lot.sizes, 1))
                self.assertEqual((house.modulus, house.start, house.stores), (3, (0,), ((0,),)))
                names = [step[3] for steps in house.lot for step in steps]
                self.assertEqual(names, list(range(lot.total)))
                self.assertEqual(len(house.tables), lot.total)
                for program, size in enumerate(lot.sizes):
                    self.assertEqual(held(house, [(program, place) for place in range(size)])[-1], 0)
                worths = held(house, placed_steps(lot, weaving))
                changes = [worths[0]] + [new for old, new in zip(worths, worths[1:]) if old != new]
                self.assertEqual(changes, [0, 1, 2, 1])

    def test_all_steps_go_by_their_own_pocket_alone(self):
        lot = lot_of_text("3: kept 2; adds 1 as 9; any 0 by 0 as 5 | kept 1; any 2 as 6; kept 2; kept 0")
        house = lengths_bar(lot, (0, 1, 0, 1, 0, 1, 1))
        for program, place in places_of(lot):
            self.assertEqual(house.lot.programs[program][place][:3], (0, "any", (place,)))

    def test_unwoven_weavings_have_no_bar(self):
        for lot in LOTS:
            for weaving in unwoven_weavings(lot):
                self.assertIsNone(lengths_bar(lot, weaving))
                self.assertIsNone(split_of(lot, list(weaving)))


class HouseTest(GuardCase):
    given = (blind_lot(1), 3, ((0, 1, 2),), (0,), ((0,),))

    def test_attributes(self):
        house = House(*self.given)
        self.assertEqual((house.lot, house.modulus, house.tables, house.start, house.stores), self.given)

    def test_equal_exactly_if_all_attributes_are(self):
        self.assertEqual(House(*self.given), House(blind_lot(1), 3, ((0, 1, 2),), (0,), ((0,),)))
        others = (blind_lot(2), 2, ((0, 2, 1),), (1,), ((0,), (1,)))
        for index, other in enumerate(others):
            changed = self.given[:index] + (other,) + self.given[index + 1:]
            self.assertNotEqual(House(*self.given), House(*changed))
            self.assertTrue(House(*self.given) != House(*changed))
        for other in (*OTHER_KINDS, self.given, list(self.given), blind_lot(1)):
            self.assertFalse(House(*self.given) == other)

    def test_nothing_is_checked(self):
        house = House(None, "3", [], 0, len)
        self.assertEqual((house.lot, house.modulus, house.tables, house.start, house.stores), (None, "3", [], 0, len))
        self.assertEqual(house, House(None, "3", [], 0, len))


class ErrorsTest(GuardCase):
    def test_bad_weavings(self):
        lot = blind_lot(2, 1)
        for call in (split_of, lengths_bar):
            for weaving in (*OTHER_KINDS, 0, "001", (0, 0, 2), (0, False, 1), (0, 0, 1, -1), (0, 0, (1,))):
                self.refuses(BadWeaving, {"what": "form"}, call, lot, weaving)
            for weaving in ((), (0, 0), (0, 1, 1), [0, 0, 1, 1]):
                self.refuses(BadWeaving, {"what": "length"}, call, lot, weaving)

    def test_nothing_that_is_passed_in_is_changed(self):
        lot = lot_of_text("1: any 0 by 0 as 1; adds 0 by 0 as 2 | kept 0")
        programs = lot.programs
        weaving = [0, 1, 0]
        split_of(lot, weaving)
        house = lengths_bar(lot, weaving)
        self.assertEqual((weaving, lot.cells, lot.programs), ([0, 1, 0], 1, programs))
        weaving[0] = 1
        self.assertEqual(house, lengths_bar(lot, (0, 1, 0)))


if __name__ == "__main__":
    unittest.main()
