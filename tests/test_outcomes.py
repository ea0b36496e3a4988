"""[2.5] to [2.8]: outcomes."""

import random
import unittest

from helper import OTHER_KINDS, GuardCase, blind_lot, made_up_lots
from knownguards.errors import BadRow, BadWeaving, TooLong
from knownguards.lots import Lot
from knownguards.lottexts import lot_of_text
from knownguards.outcomes import outcome_of, outcome_of_wholes, pockets_of, store_moments
from knownguards.weavings import all_weavings, row_weaving, unwoven_weavings
from knownguards.worths import added_worth, begun_store, is_worth, made_worth, worth_text

B0, B1, B2 = begun_store(3)
MODULUS = 2 ** 61 - 1


def value_of(name, worths):
    """A function for each name, so mixed up that unlike worths hardly ever give one value."""
    value = name + 17
    for worth in worths:
        value = pow(value * 131 + worth, 5, MODULUS)
    return pow(value, 7, MODULUS)


def run_in_house(lot, row, start):
    """What whole numbers come of the start, and the pockets of each turn; adds adds modulo MODULUS."""
    store = list(start)
    pockets = [[] for _ in lot]
    for program in row:
        if len(pockets[program]) == lot.sizes[program]:
            pockets[program] = []
        cell, kind, goes_by, name = lot.programs[program][len(pockets[program])]
        pockets[program].append(store[cell])
        value = value_of(name, [pockets[program][place] for place in goes_by])
        if kind == "any":
            store[cell] = value
        if kind == "adds":
            store[cell] = (store[cell] + value) % MODULUS
    return tuple(store), pockets


def read_worth(worth, start):
    """What a free worth is in the house."""
    base, bag = worth
    value = start[base[1]] if base[0] == 0 else value_of(base[1], [read_worth(held, start) for held in base[2]])
    for name, worths in bag:
        value = (value + value_of(name, [read_worth(held, start) for held in worths])) % MODULUS
    return value


def read_store(store, start):
    return tuple(read_worth(worth, start) for worth in store)


class ExampleTest(GuardCase):
    lot = Lot(2, (((0, "kept", (), -1), (0, "any", (0,), 0)), ((0, "any", (), 1), (1, "adds", (), 2))))

    def test_the_example_of_the_document(self):
        weaving = (0, 1, 0, 1)
        outcome = outcome_of(self.lot, weaving)
        self.assertEqual(outcome, (((1, 0, (((0, 0), ()),)), ()), ((0, 1), ((2, ()),))))
        self.assertEqual(worth_text(outcome[1]), "b1 + 2()")
        self.assertEqual(worth_text(outcome_of_wholes(self.lot, (1, 1, 0))[0]), "0(1())")
        self.assertEqual(pockets_of(self.lot, weaving)[0], (((0, 0), ()), ((1, 1, ()), ())))

    def test_its_moments(self):
        put, made = made_worth(1, ()), made_worth(0, (B0,))
        self.assertEqual(
            store_moments(self.lot, [0, 1, 0, 1]),
            ((B0, B1), (B0, B1), (put, B1), (made, B1), (made, added_worth(B1, 2, ()))),
        )
        self.assertEqual(pockets_of(self.lot, [0, 1, 0, 1]), ((B0, put), (B0, B1)))


class KindsTest(GuardCase):
    def test_an_any_that_goes_by_its_own_pocket_sees_its_look(self):
        lot = lot_of_text("1: any 0 by 0 as 3; any 0 by 0 1 as 4 | any 0 as 5")
        first = made_worth(3, (B0,))
        self.assertEqual(outcome_of(lot, (0, 0, 1)), (made_worth(5, ()),))
        self.assertEqual(outcome_of(lot, (1, 0, 0)), (
            made_worth(4, (made_worth(5, ()), made_worth(3, (made_worth(5, ()),)))),
        ))
        self.assertEqual(store_moments(lot, (0, 0, 1))[:3], ((B0,), (first,), (made_worth(4, (B0, first)),)))
        self.assertEqual(outcome_of(lot, (0, 1, 0)), (made_worth(4, (B0, made_worth(5, ()))),))

    def test_pockets_are_taken_in_ascending_order_of_places_and_only_those_gone_by(self):
        lot = lot_of_text("3: kept 2; kept 1; kept 0; any 0 by 0 2 as 8")
        self.assertEqual(outcome_of(lot, (0, 0, 0, 0)), (made_worth(8, (B2, B0)), B1, B2))
        self.assertEqual(pockets_of(lot, (0, 0, 0, 0)), ((B2, B1, B0, B0),))

    def test_an_any_puts_away_all_turns_ahead_of_it(self):
        lot = lot_of_text("1: adds 0 as 1; any 0 by 1 as 2; adds 0 by 1 as 3")
        turned = added_worth(B0, 1, ())
        made = made_worth(2, (turned,))
        self.assertEqual(
            store_moments(lot, (0, 0, 0)), ((B0,), (turned,), (made,), (added_worth(made, 3, (turned,)),))
        )
        self.assertEqual(pockets_of(lot, (0, 0, 0)), ((B0, turned, made),))

    def test_adds_of_two_programs_may_be_exchanged(self):
        lot = lot_of_text("2: kept 1; adds 0 by 0 as 9 | adds 0 as 4 | adds 0 as 4")
        expected = (((0, 0), ((4, ()), (4, ()), (9, (B1,)))), B1)
        for weaving in all_weavings(lot):
            self.assertEqual(outcome_of(lot, weaving), expected)

    def test_kept_steps_put_nothing(self):
        lot = lot_of_text("2: kept 0; kept 1 | kept 1")
        self.assertEqual(store_moments(lot, (0, 1, 0)), ((B0, B1),) * 4)
        self.assertEqual(pockets_of(lot, (0, 1, 0)), ((B0, B1), (B1,)))


class HouseTest(GuardCase):
    """[2.7]: what a weaving makes of a store is what its outcome reads as."""

    def test_weavings_end_in_a_house_as_their_outcomes_read(self):
        rng = random.Random("houses")
        for lot in made_up_lots(120, "houses"):
            start = tuple(rng.randrange(MODULUS) for _ in range(lot.cells))
            weavings = all_weavings(lot)
            for weaving in rng.sample(weavings, min(len(weavings), 12)):
                end, looks = run_in_house(lot, weaving, start)
                moments = store_moments(lot, weaving)
                self.assertEqual(len(moments), len(weaving) + 1)
                self.assertEqual(moments[0], begun_store(lot.cells))
                self.assertEqual(moments[-1], outcome_of(lot, weaving))
                for done, moment in enumerate(moments):
                    self.assertTrue(all(is_worth(worth) for worth in moment))
                    self.assertEqual(read_store(moment, start), run_in_house(lot, weaving[:done], start)[0])
                self.assertEqual(read_store(moments[-1], start), end)
                pockets = pockets_of(lot, weaving)
                self.assertEqual([[read_worth(worth, start) for worth in row] for row in pockets], looks)
                self.assertEqual(tuple(len(row) for row in pockets), lot.sizes)

    def test_weavings_that_end_alike_in_the_house_have_one_outcome(self):
        rng = random.Random("alike")
        for lot in made_up_lots(60, "alike"):
            start = tuple(rng.randrange(MODULUS) for _ in range(lot.cells))
            ends = {}
            for weaving in all_weavings(lot):
                outcome = outcome_of(lot, weaving)
                self.assertEqual(ends.setdefault(run_in_house(lot, weaving, start)[0], outcome), outcome)

    def test_rows_of_wholes_end_in_a_house_as_their_outcomes_read(self):
        rng = random.Random("rows")
        for lot in made_up_lots(120, "rows"):
            start = tuple(rng.randrange(MODULUS) for _ in range(lot.cells))
            for _ in range(5):
                row = [rng.randrange(len(lot)) for _ in range(14 // max(lot.sizes))]
                outcome = outcome_of_wholes(lot, row)
                self.assertEqual(read_store(outcome, start), run_in_house(lot, row_weaving(lot, row), start)[0])


class WholesTest(GuardCase):
    def test_the_empty_row(self):
        for cells in (1, 2, 3):
            lot = Lot(cells, (((0, "any", (), 0),),))
            self.assertEqual(outcome_of_wholes(lot, ()), begun_store(cells))
            self.assertEqual(outcome_of_wholes(lot, []), begun_store(cells))

    def test_pockets_are_new_each_time(self):
        lot = lot_of_text("2: kept 0; any 0 by 0 1 as 1 | any 0 as 2")
        one = made_worth(1, (B0, B0))
        self.assertEqual(outcome_of_wholes(lot, (0, 0)), (made_worth(1, (one, one)), B1))
        put = made_worth(2, ())
        self.assertEqual(outcome_of_wholes(lot, [0, 1, 0]), (made_worth(1, (put, put)), B1))

    def test_a_row_with_each_program_once_is_that_unwoven_weaving(self):
        for lot in made_up_lots(80, "unwoven"):
            for weaving in unwoven_weavings(lot):
                row = sorted(set(weaving), key=weaving.index)
                self.assertEqual(outcome_of_wholes(lot, row), outcome_of(lot, weaving))

    def test_fourteen_and_fifteen_steps(self):
        lot = blind_lot(1, 4, 2)
        self.assertEqual(outcome_of_wholes(lot, (0,) * 14), (made_worth(0, ()),))
        self.assertEqual(outcome_of_wholes(lot, (1, 2, 1, 0, 0, 2)), (made_worth(0, ()),))
        adds = lot_of_text("1: adds 0 as 3")
        self.assertEqual(outcome_of_wholes(adds, (0,) * 14), (((0, 0), ((3, ()),) * 14),))
        for row, steps in (((0,) * 15, 15), ((1, 1, 1, 1), 16), ([2] * 7 + [0], 15), ((1, 1, 1, 2, 0), 15)):
            self.refuses(TooLong, {"steps": steps}, outcome_of_wholes, lot, row)
        self.refuses(TooLong, {"steps": 20000}, outcome_of_wholes, lot, (1,) * 5000)

    def test_bad_rows(self):
        lot = blind_lot(1, 2)
        for row in (*OTHER_KINDS, 0, "0"):
            self.refuses(BadRow, {"index": -1}, outcome_of_wholes, lot, row)
        for wrong in (*OTHER_KINDS, -1, 2):
            self.refuses(BadRow, {"index": 0}, outcome_of_wholes, lot, (wrong,))
            self.refuses(BadRow, {"index": 1}, outcome_of_wholes, lot, [0, wrong, 1, wrong])
            self.refuses(BadRow, {"index": 30}, outcome_of_wholes, lot, (1,) * 30 + (wrong,))


class ErrorsTest(GuardCase):
    def test_bad_weavings(self):
        lot = blind_lot(2, 1)
        for call in (outcome_of, store_moments, pockets_of):
            for weaving in (*OTHER_KINDS, 0, "001", (0, 0, 2), (0, False, 1), (0, 0, 1, -1)):
                self.refuses(BadWeaving, {"what": "form"}, call, lot, weaving)
            for weaving in ((), (0, 0), (0, 1, 1), [0, 0, 1, 1]):
                self.refuses(BadWeaving, {"what": "length"}, call, lot, weaving)

    def test_nothing_that_is_passed_in_is_changed(self):
        lot = lot_of_text("1: any 0 by 0 as 1; adds 0 by 0 as 2 | kept 0")
        programs = lot.programs
        weaving, row = [0, 1, 0], [0, 1, 0]
        for call in (outcome_of, store_moments, pockets_of):
            call(lot, weaving)
        outcome_of_wholes(lot, row)
        self.assertEqual((weaving, row, lot.programs), ([0, 1, 0], [0, 1, 0], programs))


if __name__ == "__main__":
    unittest.main()
