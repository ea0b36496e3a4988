"""[5.5] to [5.7], [5.10] example: closed lots."""

import itertools
import random
import unittest

from helper import (
    OTHER_KINDS, GuardCase, made_up_lots, made_up_meaning, plain_moments, plain_rows, plain_stores, row_steps,
)
from knownguards.closedlots import Breaks, Ends, closed_lot, let_under, lets_under, one_row, way_to
from knownguards.errors import BadMeaning, BadStore, BadWeaving, TooMany
from knownguards.letting import Let, letting
from knownguards.lottexts import lot_of_text
from knownguards.meanings import Meaning, run_program, run_weaving, run_wholes
from knownguards.weavings import all_weavings, unwoven_weavings

EXAMPLE = lot_of_text("1: any 0 by 0 as 0 | any 0 by 0 as 1")
THREE = Meaning(3, ((0, (1, 2, 0)), (1, (0, 2, 1))))
LOT = lot_of_text("2: kept 0; any 0 by 0 1 as 7; adds 1 by 0 as 3 | any 1 as 5; any 0 by 0 as 2")
MEANING = Meaning(2, ((2, (1, 0)), (3, (0, 1)), (5, (1,)), (7, (0, 1, 1, 0))))


def lots_with_meanings(many, seed, moduli=(2, 3)):
    """Lots with meanings that fit them, the same ones for the same seed."""
    rng = random.Random(seed)
    return [(lot, made_up_meaning(rng, lot, modulus)) for lot in made_up_lots(many, seed) for modulus in moduli]


def plain_end(lot, meaning, weaving, store):
    return plain_moments(lot, meaning.modulus, dict(meaning.tables), weaving, store)[-1]


def plain_ways(lot, meaning, store):
    return plain_rows(lot, meaning.modulus, dict(meaning.tables), store)


class ClosedLotTest(GuardCase):
    def test_the_example_of_the_document(self):
        self.assertEqual(closed_lot(EXAMPLE, THREE, (0,)), ((0,), (1,), (2,)))
        self.assertEqual(way_to(EXAMPLE, THREE, (0,), (2,)), (0, 0))
        self.assertEqual(lets_under(EXAMPLE, THREE, (0, 1)), Ends(((0, 0), (), (0,))))
        self.assertEqual([run_weaving(EXAMPLE, THREE, (0, 1), (k,)) for k in range(3)], [(2,), (1,), (0,)])

    def test_closed_lots_and_ways(self):
        for lot, meaning in lots_with_meanings(60, "closed"):
            stores = plain_stores(lot, meaning.modulus)
            for store in stores:
                ways = plain_ways(lot, meaning, store)
                self.assertEqual(closed_lot(lot, meaning, list(store)), tuple(sorted(ways)))
                for goal in stores:
                    self.assertEqual(way_to(lot, meaning, list(store), list(goal)), ways.get(goal))

    def test_it_is_the_least_set_that_each_program_leads_into_itself(self):
        for lot, meaning in lots_with_meanings(30, "least", (2,)):
            if lot.cells < 3:
                stores = plain_stores(lot, 2)
                for store in stores:
                    kept = [
                        chosen for length in range(1, len(stores) + 1)
                        for chosen in itertools.combinations(stores, length)
                        if store in chosen and all(
                            run_program(lot, meaning, program, one) in chosen
                            for one in chosen for program in range(len(lot))
                        )
                    ]
                    closed = closed_lot(lot, meaning, store)
                    self.assertIn(closed, kept)
                    self.assertTrue(all(set(closed) <= set(chosen) for chosen in kept))

    def test_ways_are_shortest_and_then_least(self):
        lot = lot_of_text("1: any 0 by 0 as 0 | any 0 by 0 as 1 | any 0 by 0 as 2")
        meaning = Meaning(3, ((0, (0, 2, 2)), (1, (1, 1, 2)), (2, (1, 2, 0))))
        self.assertEqual(way_to(lot, meaning, (0,), (0,)), ())
        self.assertEqual(way_to(lot, meaning, (0,), (1,)), (1,))
        self.assertEqual(way_to(lot, meaning, (0,), (2,)), (1, 0))
        self.assertEqual(way_to(lot, meaning, (1,), (0,)), (0, 2))
        self.assertEqual(way_to(lot, meaning, (2,), (1,)), (2, 1))

    def test_no_way(self):
        lot = lot_of_text("1: any 0 as 0 | kept 0")
        meaning = Meaning(3, ((0, (1,)),))
        self.assertIsNone(way_to(lot, meaning, (0,), (2,)))
        self.assertIsNone(way_to(lot, meaning, (1,), (0,)))
        self.assertEqual(closed_lot(lot, meaning, (2,)), ((1,), (2,)))
        self.assertEqual(closed_lot(lot, meaning, (1,)), ((1,),))


class LetsUnderTest(GuardCase):
    def test_every_store_of_some_lots(self):
        rng = random.Random("lets")
        seen = set()
        for lot, meaning in lots_with_meanings(50, "lets"):
            tried = rng.sample(all_weavings(lot), min(4, len(all_weavings(lot))))
            stores = plain_stores(lot, meaning.modulus)
            ways = {store: plain_ways(lot, meaning, store) for store in stores}
            let = []
            for weaving in all_weavings(lot):
                ends = {store: plain_end(lot, meaning, weaving, store) for store in stores}
                out = [store for store in stores if ends[store] not in ways[store]]
                if out:
                    expected = Breaks(out[0], tuple(sorted(ways[out[0]])))
                else:
                    expected = Ends(tuple(ways[store][ends[store]] for store in stores))
                    let.append(weaving)
                if weaving in tried:
                    found = lets_under(lot, meaning, list(weaving))
                    self.assertIs(type(found), type(expected))
                    self.assertEqual(found, expected)
                    seen.add(type(found))
            self.assertEqual(let_under(lot, meaning), tuple(let))
        self.assertEqual(seen, {Ends, Breaks})

    def test_a_weaving_that_breaks(self):
        lot = lot_of_text("1: any 0 by 0 as 0; any 0 by 1 as 0 | any 0 as 1")
        meaning = Meaning(2, ((0, (1, 0)), (1, (0,))))
        self.assertEqual(lets_under(lot, meaning, (0, 1, 0)), Breaks((0,), ((0,),)))
        self.assertEqual(let_under(lot, meaning), ((0, 0, 1), (1, 0, 0)))

    def test_unwoven_weavings_are_let(self):
        for lot, meaning in lots_with_meanings(40, "unwoven"):
            let = let_under(lot, meaning)
            self.assertTrue(all(weaving in let for weaving in unwoven_weavings(lot)))

    def test_what_facts_let_is_let_by_their_one_row_from_every_store(self):
        for lot, meaning in lots_with_meanings(50, "facts let"):
            let = let_under(lot, meaning)
            for weaving in all_weavings(lot)[::3]:
                found = letting(lot, weaving)
                if isinstance(found, Let):
                    self.assertIn(weaving, let)
                    for store in plain_stores(lot, meaning.modulus):
                        end = run_weaving(lot, meaning, weaving, store)
                        self.assertEqual(run_wholes(lot, meaning, found.row, store), end)


class OneRowTest(GuardCase):
    def test_shortest_and_least_of_all_rows(self):
        none = 0
        for lot, meaning in lots_with_meanings(60, "one row"):
            stores = plain_stores(lot, meaning.modulus)
            if len(stores) > 4:
                continue
            ends_of = {}
            rows = [()]
            while rows:
                longer = []
                for row in rows:
                    ends = tuple(plain_end(lot, meaning, row_steps(lot, row), store) for store in stores)
                    if ends not in ends_of:
                        ends_of[ends] = row
                        longer += [(*row, program) for program in range(len(lot))]
                rows = longer
            for weaving in all_weavings(lot):
                ends = tuple(plain_end(lot, meaning, weaving, store) for store in stores)
                self.assertEqual(one_row(lot, meaning, list(weaving)), ends_of.get(ends))
                none += ends not in ends_of
        self.assertGreater(none, 50)

    def test_what_facts_let_has_one_row_and_what_has_one_row_is_let(self):
        for lot, meaning in lots_with_meanings(60, "between"):
            if meaning.modulus ** lot.cells > 4:
                continue
            let = let_under(lot, meaning)
            for weaving in all_weavings(lot):
                row = one_row(lot, meaning, weaving)
                if isinstance(letting(lot, weaving), Let):
                    self.assertIsNotNone(row)
                if row is not None:
                    self.assertIn(weaving, let)

    def test_the_converses_do_not_hold(self):
        lot = lot_of_text("1: any 0 by 0 as 0 | any 0 by 0 as 1 | kept 0; any 0 by 0 1 as 2")
        swaps = Meaning(2, ((0, (1, 0)), (1, (0, 1)), (2, (0, 0, 1, 1))))
        self.assertEqual(one_row(lot, swaps, (2, 0, 2, 1)), ())
        self.assertNotIsInstance(letting(lot, (2, 0, 2, 1)), Let)
        lot = lot_of_text("1: kept 0; any 0 by 0 1 as 0 | any 0 by 0 as 1")
        meaning = Meaning(2, ((0, (1, 0, 0, 0)), (1, (1, 0))))
        self.assertIsNone(one_row(lot, meaning, (0, 1, 0)))
        self.assertEqual(lets_under(lot, meaning, (0, 1, 0)), Ends(((), (0,))))

    def test_too_many_stores(self):
        for cells, modulus, count in ((3, 2, 8), (2, 3, 9), (3, 3, 27)):
            lot = lot_of_text(f"{cells}: any 0 as 0")
            self.refuses(TooMany, {"count": count}, one_row, lot, Meaning(modulus, ((0, (1,)),)), (0,))
        for cells, modulus in ((1, 2), (2, 2), (1, 3)):
            lot = lot_of_text(f"{cells}: any 0 as 0")
            self.assertEqual(one_row(lot, Meaning(modulus, ((0, (1,)),)), (0,)), (0,))


class ResultsTest(GuardCase):
    def test_attributes(self):
        self.assertEqual(Ends(((), (0,))).rows, ((), (0,)))
        breaks = Breaks(len, "x")
        self.assertEqual((breaks.store, breaks.stores), (len, "x"))

    def test_equal_exactly_if_all_attributes_are(self):
        self.assertEqual(Ends(((), (0,))), Ends(((), (0,))))
        self.assertTrue(Ends(((), (0,))) != Ends(((0,), ())))
        self.assertEqual(Breaks((0,), ((0,),)), Breaks((0,), ((0,),)))
        self.assertTrue(Breaks((0,), ((0,),)) != Breaks((1,), ((0,),)))
        self.assertTrue(Breaks((0,), ((0,),)) != Breaks((0,), ((1,),)))
        for other in (*OTHER_KINDS, 0, (), ((), (0,)), ((0,), ((0,),)), Let(((), (0,)))):
            self.assertFalse(Ends(((), (0,))) == other)
            self.assertFalse(Breaks((0,), ((0,),)) == other)
        self.assertFalse(Ends((0,)) == Breaks((0,), (0,)))


class ErrorsTest(GuardCase):
    short = Meaning(2, MEANING.tables[1:])
    long = Meaning(2, ((7, (0,)),))
    wrong_stores = (*OTHER_KINDS, 0, "00", (), (0,), (0, 0, 0), (0, 2), (-1, 0), (0, True), [False, 0], (0, 1.0))

    def test_bad_meanings_come_first(self):
        for call, more in ((closed_lot, (None,)), (way_to, (None, None)), (lets_under, (None,)), (let_under, ()),
                           (one_row, (None,))):
            self.refuses(BadMeaning, {"what": "name"}, call, LOT, self.short, *more)
            self.refuses(BadMeaning, {"what": "table"}, call, LOT, self.long, *more)

    def test_bad_stores_come_next(self):
        for wrong in self.wrong_stores:
            self.refuses(BadStore, {}, closed_lot, LOT, MEANING, wrong)
            self.refuses(BadStore, {}, way_to, LOT, MEANING, wrong, (0, 0))
            self.refuses(BadStore, {}, way_to, LOT, MEANING, [0, 0], wrong)
        self.refuses(BadStore, {}, way_to, EXAMPLE, THREE, (3,), (0,))
        self.refuses(BadStore, {}, way_to, EXAMPLE, THREE, (0,), (3,))

    def test_bad_weavings_come_next(self):
        three = lot_of_text("3: any 0 as 0 | any 1 as 1")
        meaning = Meaning(3, ((0, (1,)), (1, (2,))))
        for call in (lets_under, one_row):
            for wrong in (*OTHER_KINDS, 0, "01", (0, 2), (0, True)):
                self.refuses(BadWeaving, {"what": "form"}, call, three, meaning, wrong)
            for wrong in ((), (0,), (0, 0), [0, 1, 1]):
                self.refuses(BadWeaving, {"what": "length"}, call, three, meaning, wrong)

    def test_nothing_that_is_passed_in_is_changed(self):
        store, goal, weaving = [1, 0], [0, 0], [0, 1, 0, 1, 0]
        programs = LOT.programs
        closed_lot(LOT, MEANING, store)
        way_to(LOT, MEANING, store, goal)
        lets_under(LOT, MEANING, weaving)
        one_row(LOT, MEANING, weaving)
        let_under(LOT, MEANING)
        self.assertEqual((store, goal, weaving), ([1, 0], [0, 0], [0, 1, 0, 1, 0]))
        self.assertEqual((LOT.programs, MEANING), (programs, Meaning(2, MEANING.tables)))


if __name__ == "__main__":
    unittest.main()
