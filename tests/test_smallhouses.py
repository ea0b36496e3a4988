"""[4.1] to [4.3], [2.7]: told worths and small houses."""

import itertools
import random
import unittest

from helper import (
    OTHER_KINDS, GuardCase, blind_lot, brute_change, brute_run, brute_stores, closure, made_up_lots, number_in,
)
from knownguards.errors import BadHouse, BadRow, BadSmallStore, BadWeaving, NoProgram
from knownguards.lottexts import lot_of_text
from knownguards.outcomes import outcome_of, outcome_of_wholes, pockets_of, store_moments
from knownguards.smallhouses import (
    SmallHouse, check_small, small_begin, small_row, small_run, small_step, stores_from, told_worths,
)
from knownguards.weavings import all_weavings
from knownguards.worths import added_worth, bags_within, begun_store, closed_worths, made_worth, parts_of

B0, B1, B2 = begun_store(3)
PUT = made_worth(1, ())
MADE = made_worth(0, (B0, PUT))
TURNED = added_worth(added_worth(B1, 2, ()), 3, (B0,))
CLOSED = closed_worths((MADE, TURNED))
LOT = lot_of_text("2: kept 0; any 0 by 0 1 as 0 | any 0 as 1; kept 0; adds 1 as 2; adds 1 by 1 as 3")


def some_weavings(rng, lot, many):
    weavings = all_weavings(lot)
    return rng.sample(weavings, min(len(weavings), many))


class ToldTest(GuardCase):
    def test_all_worths_of_all_moments_closed(self):
        rng = random.Random("told")
        for lot in made_up_lots(60, "told"):
            for weaving in some_weavings(rng, lot, 5):
                held = [worth for store in store_moments(lot, weaving) for worth in store]
                self.assertEqual(told_worths(lot, weaving), closure(held))
                self.assertEqual(told_worths(lot, list(weaving)), closure(held))

    def test_worths_that_are_gone_in_the_end_are_told(self):
        lot = lot_of_text("2: any 0 as 1; any 0 as 2")
        self.assertEqual(told_worths(lot, (0, 0)), (B0, B1, PUT, made_worth(2, ())))

    def test_cells_that_are_not_touched_are_told(self):
        self.assertEqual(told_worths(lot_of_text("3: kept 0"), (0,)), (B0, B1, B2))

    def test_lesser_bags_are_told(self):
        lot = lot_of_text("1: adds 0 as 1; adds 0 as 2")
        one, other = added_worth(B0, 1, ()), added_worth(B0, 2, ())
        self.assertEqual(told_worths(lot, (0, 0)), (B0, one, added_worth(one, 2, ()), other))

    def test_what_a_pocket_holds_is_told(self):
        for lot in made_up_lots(30, "pockets"):
            weaving = all_weavings(lot)[-1]
            told = told_worths(lot, weaving)
            self.assertTrue(all(worth in told for row in pockets_of(lot, weaving) for worth in row))


class HouseTest(GuardCase):
    def test_attributes(self):
        rng = random.Random("attributes")
        for kind in (tuple, list):
            worths = list(CLOSED) + list(CLOSED[:3])
            rng.shuffle(worths)
            house = SmallHouse(LOT, kind(worths))
            self.assertEqual((house.lot, house.worths, house.junk), (LOT, CLOSED, len(CLOSED)))
            self.assertIs(type(house.worths), tuple)

    def test_the_empty_set_is_closed(self):
        for worths in ((), []):
            house = SmallHouse(LOT, worths)
            self.assertEqual((house.worths, house.junk), ((), 0))
            self.assertEqual((house.number_of(B0), house.made_number(1, ()), house.added_number(0, 2, ())), (0, 0, 0))
            self.assertEqual(small_begin(house), (0, 0))
            self.assertEqual(stores_from(house, (0, 0)), ((0, 0),))

    def test_number_of(self):
        house = SmallHouse(LOT, CLOSED)
        for number, worth in enumerate(CLOSED):
            self.assertEqual(house.number_of(worth), number)
        for worth in (B2, made_worth(0, (PUT, B0)), made_worth(1, (B0,)), added_worth(B0, 2, ()),
                      added_worth(TURNED, 2, ()), made_worth(99, ()), added_worth(B1, 3, (B1,))):
            self.assertEqual(house.number_of(worth), house.junk)

    def test_made_and_added_numbers_are_those_of_the_worths(self):
        worths = closed_worths((MADE, TURNED, added_worth(added_worth(MADE, 4, ()), 4, ()), made_worth(0, (MADE, B0))))
        house = SmallHouse(LOT, worths)
        numbers = range(house.junk + 1)
        for name in range(6):
            for length in range(3):
                for row in itertools.product(numbers, repeat=length):
                    step = (0, "any", tuple(range(length)), name)
                    expected = brute_change(house, step, 0, row)
                    self.assertEqual(house.made_number(name, row), expected)
                    self.assertEqual(house.made_number(name, list(row)), expected)
                    if length < 2:
                        for number in numbers:
                            step = (0, "adds", tuple(range(length)), name)
                            expected = brute_change(house, step, number, row)
                            self.assertEqual(house.added_number(number, name, row), expected)
                            self.assertEqual(house.added_number(number, name, list(row)), expected)

    def test_turns_may_be_exchanged(self):
        turns = [(1, ()), (2, (B0,)), (2, (PUT,)), (1, ())]
        worth = PUT
        for name, worths in turns:
            worth = added_worth(worth, name, worths)
        for worths in (closed_worths((worth,)), closed_worths((worth, B0, B1))[:-1], closed_worths((B0, PUT))):
            house = SmallHouse(LOT, closed_worths(worths))
            numbers = range(house.junk + 1)
            calls = [(name, (number,) * length) for name in (1, 2) for length in (0, 1) for number in numbers]
            for one, other in itertools.product(calls, repeat=2):
                for number in numbers:
                    self.assertEqual(
                        house.added_number(house.added_number(number, *one), *other),
                        house.added_number(house.added_number(number, *other), *one),
                    )

    def test_names_and_cells_that_the_lot_does_not_have(self):
        strange = added_worth(made_worth(77, (B2,)), 78, (B2,))
        house = SmallHouse(blind_lot(1), closed_worths((strange,)))
        number = house.number_of(strange)
        b2 = house.number_of(B2)
        self.assertEqual(house.added_number(house.made_number(77, (b2,)), 78, [b2]), number)
        self.assertEqual(small_begin(house), (house.junk,))

    def test_worths_that_are_nested_deep(self):
        worth, chain = B0, [B0]
        for _ in range(32):
            worth = made_worth(5, (worth,))
            chain.append(worth)
        house = SmallHouse(lot_of_text("1: any 0 by 0 as 5"), chain)
        self.assertEqual(house.worths, closure(chain))
        self.assertEqual(small_row(house, small_begin(house), (0,) * 32), (house.number_of(worth),))
        self.assertEqual(small_row(house, small_begin(house), (0,) * 33), (house.junk,))
        self.assertEqual(len(stores_from(house, small_begin(house))), 34)

    def test_three_hundred_worths_and_bags_of_seven_turns(self):
        full = B0
        for name in range(7):
            full = added_worth(full, name, ())
        worths = closed_worths((full, *[added_worth(added_worth(PUT, k, ()), k + 1, ()) for k in range(20, 99, 2)],
                                made_worth(1, ()), B1, B2))
        house = SmallHouse(LOT, worths[::-1])
        self.assertGreater(house.junk, 240)
        self.assertEqual(house.worths, closure(worths))
        number = house.number_of(B0)
        for name in (3, 0, 6, 1, 5, 2, 4):
            number = house.added_number(number, name, ())
        self.assertEqual(number, house.number_of(full))
        self.assertEqual(house.added_number(number, 6, ()), house.junk)

    def test_later_changes_have_no_effect(self):
        worths = list(CLOSED)
        house = SmallHouse(LOT, worths)
        self.assertEqual(worths, list(CLOSED))
        worths.clear()
        self.assertEqual(house.worths, CLOSED)
        self.assertEqual(house.number_of(CLOSED[-1]), len(CLOSED) - 1)

    def test_moments_of_one_house_are_none_of_another(self):
        one, other = SmallHouse(LOT, CLOSED), SmallHouse(LOT, ())
        self.assertEqual((one.number_of(PUT), other.number_of(PUT)), (CLOSED.index(PUT), 0))


class BadHouseTest(GuardCase):
    def test_no_sequence_of_worths(self):
        for wrong in (*OTHER_KINDS, 0, "worths", {B0: True}):
            self.refuses(BadHouse, {"worth": None}, SmallHouse, LOT, wrong)
        for wrong in (*OTHER_KINDS, 0, (), ((0, 0),), [(0, 0), ()], ((0, True), ()), ((0, 3), ()), ((1, 1, []), ()),
                      ((0, 0), []), ((0, 0), ((2, ()), (1, ()))), ((1, 100, ()), ()), ((1, 1, (((0, False), ()),)), ())):
            self.refuses(BadHouse, {"worth": None}, SmallHouse, LOT, (wrong,))
            self.refuses(BadHouse, {"worth": None}, SmallHouse, LOT, [B0, wrong, B1])
            self.refuses(BadHouse, {"worth": None}, SmallHouse, LOT, [MADE, wrong])

    def test_a_worth_that_lacks_a_part_or_a_lesser_bag(self):
        one, other = added_worth(B0, 1, ()), added_worth(B0, 2, ())
        both = added_worth(one, 2, ())
        for worths, least in (
            ((MADE,), MADE), ((MADE, B0), MADE), ((MADE, PUT), MADE), ([MADE, PUT, PUT], MADE), ((one,), one),
            ((both, B0, one), both), ((both, B0, other), both), ((both, one, other), one), ((B0, both), both),
            ((other, both, one), one), ((TURNED, B1, B0, added_worth(B1, 2, ())), TURNED),
            ((made_worth(3, (MADE,)), made_worth(2, (B1,))), made_worth(2, (B1,))),
            ((added_worth(B1, 3, (B0,)), B1), added_worth(B1, 3, (B0,))),
        ):
            for row in itertools.permutations(worths):
                self.refuses(BadHouse, {"worth": least}, SmallHouse, LOT, row)

    def test_the_least_worth_that_lacks_any_lesser_bag_is_told(self):
        turns = [added_worth(B0, name, ()) for name in (1, 2, 3)]
        whole = added_worth(added_worth(turns[0], 2, ()), 3, ())
        lesser = [added_worth(turns[0], 2, ()), added_worth(turns[0], 3, ()), added_worth(turns[1], 3, ())]
        self.refuses(BadHouse, {"worth": whole}, SmallHouse, LOT, (B0, turns[0], turns[1], *lesser[:1], lesser[2], whole))
        self.refuses(BadHouse, {"worth": whole}, SmallHouse, LOT, (B0, turns[0], turns[1], lesser[0], whole))

    def test_every_part_of_a_closed_set(self):
        worths = closed_worths((MADE, added_worth(added_worth(B1, 2, ()), 3, (B0,)), made_worth(4, (B2, B2))))
        for chosen in itertools.product((True, False), repeat=len(worths)):
            subset = [worth for worth, taken in zip(worths, chosen) if taken]
            lacking = [
                worth for worth in subset if any(part not in subset for part in parts_of(worth) + bags_within(worth))
            ]
            if lacking:
                self.refuses(BadHouse, {"worth": lacking[0]}, SmallHouse, LOT, subset)
            else:
                self.assertEqual(SmallHouse(LOT, subset).worths, tuple(subset))


class StoresTest(GuardCase):
    house = SmallHouse(LOT, CLOSED)

    def test_good_stores(self):
        for store in itertools.product(range(self.house.junk + 1), repeat=2):
            self.assertEqual(check_small(self.house, store), store)
            self.assertEqual(check_small(self.house, list(store)), store)

    def test_bad_stores(self):
        junk = self.house.junk
        calls = ((check_small, ()), (small_step, (9,)), (small_run, (None,)), (small_row, (None,)), (stores_from, ()))
        for call, more in calls:
            for wrong in (*OTHER_KINDS, 0, "00", b"\0\0", (), (0,), (0, 0, 0), (0, junk + 1), (-1, 0), (0, True),
                          [False, 0], (0, 1.0), (0, None), ("0", 0), ((0,), 0), {0: 0, 1: 1}):
                self.refuses(BadSmallStore, {}, call, self.house, wrong, *more)

    def test_steps_runs_and_rows_from_every_store(self):
        rng = random.Random("runs")
        for house in (self.house, SmallHouse(LOT, closed_worths((MADE, B1))), SmallHouse(LOT, CLOSED[:2])):
            self.assertLessEqual(house.junk, len(CLOSED))
            for store in itertools.product(range(house.junk + 1), repeat=2):
                for program, size in enumerate(LOT.sizes):
                    expected = brute_run(house, store, [program] * size)
                    self.assertEqual(small_step(house, list(store), program), expected)
                for weaving in some_weavings(rng, LOT, 4):
                    self.assertEqual(small_run(house, list(store), list(weaving)), brute_run(house, store, weaving))
                row = [rng.randrange(2) for _ in range(rng.randrange(6))]
                expected = store
                for program in row:
                    expected = brute_run(house, expected, [program] * LOT.sizes[program])
                self.assertEqual(small_row(house, list(store), row), expected)
                self.assertEqual(stores_from(house, list(store)), brute_stores(house, store))

    def test_the_empty_row_and_long_rows(self):
        begin = small_begin(self.house)
        self.assertEqual(small_row(self.house, list(begin), ()), begin)
        self.assertIs(type(small_row(self.house, list(begin), [])), tuple)
        long = (0, 1) * 2000
        self.assertIn(small_row(self.house, begin, long), stores_from(self.house, begin))

    def test_junk_stays_junk_until_something_else_is_put(self):
        junk = self.house.junk
        self.assertEqual(small_step(self.house, (junk, junk), 0), (junk, junk))
        self.assertEqual(small_step(self.house, (junk, junk), 1), (CLOSED.index(PUT), junk))
        self.assertEqual(small_run(self.house, (junk, 0), (0, 1, 0, 1, 1, 1)), (junk, junk))

    def test_errors_come_in_order(self):
        for wrong in (*OTHER_KINDS, -1, 2, "1", (0,)):
            self.refuses(NoProgram, {"program": wrong}, small_step, self.house, (0, 0), wrong)
            self.refuses(BadRow, {"index": 1}, small_row, self.house, [0, 0], [0, wrong, wrong])
        for wrong in (*OTHER_KINDS, 0, "010111", (0, 1, 0, 1, 1, 2), (0, True, 0, 1, 1, 1)):
            self.refuses(BadWeaving, {"what": "form"}, small_run, self.house, (0, 0), wrong)
        for wrong in ((), (0, 1), (0, 0, 1, 1, 1), [0, 0, 0, 1, 1, 1]):
            self.refuses(BadWeaving, {"what": "length"}, small_run, self.house, (0, 0), wrong)
        for wrong in (*OTHER_KINDS, 0, "01"):
            self.refuses(BadRow, {"index": -1}, small_row, self.house, (0, 0), wrong)

    def test_bad_weavings(self):
        for wrong in (*OTHER_KINDS, 0, "010111", (0, 1, 0, 1, 1, 2), (0, True, 0, 1, 1, 1)):
            self.refuses(BadWeaving, {"what": "form"}, told_worths, LOT, wrong)
        for wrong in ((), (0, 1), [0, 0, 0, 1, 1, 1]):
            self.refuses(BadWeaving, {"what": "length"}, told_worths, LOT, wrong)

    def test_nothing_that_is_passed_in_is_changed(self):
        store, weaving, row = [0, 1], [0, 1, 0, 1, 1, 1], [0, 1, 1]
        programs = LOT.programs
        check_small(self.house, store)
        small_step(self.house, store, 1)
        small_run(self.house, store, weaving)
        small_row(self.house, store, row)
        stores_from(self.house, store)
        told_worths(LOT, weaving)
        self.assertEqual((store, weaving, row), ([0, 1], [0, 1, 0, 1, 1, 1], [0, 1, 1]))
        self.assertEqual((LOT.programs, self.house.worths), (programs, CLOSED))


class MeaningTest(GuardCase):
    """[4.3], [2.7]: from the beginning, all leads to the numbers of its outcome."""

    def numbers(self, house, store):
        return tuple(number_in(house, worth) for worth in store)

    def test_weavings_and_rows_lead_to_the_numbers_of_their_outcomes(self):
        rng = random.Random("numbers")
        for lot in made_up_lots(60, "numbers"):
            weavings = some_weavings(rng, lot, 3)
            sets = [told_worths(lot, weavings[0]), (), closure(rng.sample(told_worths(lot, weavings[-1]), 1))]
            sets.append(closure(sets[0] + sets[2] + begun_store(3)))
            for house in [SmallHouse(lot, worths) for worths in sets]:
                begin = small_begin(house)
                self.assertEqual(begin, self.numbers(house, begun_store(lot.cells)))
                for weaving in weavings:
                    self.assertEqual(small_run(house, begin, weaving), self.numbers(house, outcome_of(lot, weaving)))
                for _ in range(3):
                    row = [rng.randrange(len(lot)) for _ in range(rng.randrange(1 + 14 // max(lot.sizes)))]
                    end = small_row(house, begin, row)
                    self.assertEqual(end, self.numbers(house, outcome_of_wholes(lot, row)))
                    self.assertIn(end, stores_from(house, begin))

    def test_unlike_outcomes_end_unlike_in_the_house_of_both(self):
        rng = random.Random("unlike")
        for lot in made_up_lots(40, "unlike"):
            one, other = rng.choice(all_weavings(lot)), rng.choice(all_weavings(lot))
            house = SmallHouse(lot, closed_worths(outcome_of(lot, one) + outcome_of(lot, other)))
            begin = small_begin(house)
            self.assertEqual(
                small_run(house, begin, one) == small_run(house, begin, other),
                outcome_of(lot, one) == outcome_of(lot, other),
            )


if __name__ == "__main__":
    unittest.main()
