"""[5.8] to [5.10]: meanings at the cells, bars of bits, meanings of houses."""

import itertools
import random
import unittest

from helper import (
    OTHER_KINDS, GuardCase, blind_lot, made_up_lots, made_up_meaning, plain_moments, plain_stores, row_steps,
)
from knownguards.bits import BitBar, bit_bar, bit_fault, cells_meaning, house_meaning
from knownguards.closedlots import Breaks, Ends, let_under, lets_under
from knownguards.errors import BadMeaning, BadWeaving
from knownguards.facts import cells_floor
from knownguards.lengths import lengths_bar
from knownguards.lottexts import lot_of_text
from knownguards.meanings import Meaning, check_meaning, run_moments
from knownguards.orders import Ring, all_orders, order_for
from knownguards.weavings import all_weavings, is_unwoven

PAIRS = lot_of_text("2: any 0 as 0; any 1 as 1 | any 0 as 2; any 1 as 3")
SPLIT = lot_of_text("2: kept 0; any 0 by 0 as 0 | any 0 as 1; any 1 as 2")
THREE = lot_of_text("3: any 0 as 0; any 1 as 1 | any 1 as 2; any 2 as 3 | any 2 as 4; any 0 as 5")
ROUND = (0, 1, 2, 0, 1, 2)
SEVEN = lot_of_text("3: kept 0; adds 1 as 0; any 2 as 1 | adds 1 as 2; kept 2 | any 0 as 3; kept 1")
LOTS = [PAIRS, SPLIT, THREE, SEVEN, blind_lot(2, 1), blind_lot(1, 1, 1), *made_up_lots(25, "bits")]


def plain_end(lot, meaning, steps, store):
    return plain_moments(lot, meaning.modulus, dict(meaning.tables), steps, store)[-1]


def plain_fault(lot, weaving, bar):
    """The first word of [5.9], for bars whose stores are rows of numbers."""
    floor = cells_floor(lot)
    tables = dict(bar.meaning.tables)
    for steps in floor:
        for _, _, goes_by, name in steps:
            if bar.meaning.modulus != 2 or name not in tables or len(tables[name]) != 2 ** len(goes_by):
                return "meaning"
    stores = [tuple(store) for store in bar.stores]
    if stores != sorted(set(stores)) or not set(stores) <= set(plain_stores(lot, 2)) or tuple(bar.store) not in stores:
        return "stores"
    for store in stores:
        for program in range(len(lot)):
            if plain_end(floor, bar.meaning, row_steps(floor, [program]), store) not in stores:
                return "keeps"
    return "breaks" if plain_end(floor, bar.meaning, weaving, tuple(bar.store)) in stores else None


class CellsMeaningTest(GuardCase):
    def test_an_example(self):
        lot = lot_of_text("1: kept 0; any 0 by 0 as 9; adds 0 by 1 as 8 | any 0 as 7; any 0 by 1 as 9")
        meaning = Meaning(2, ((7, (1,)), (8, (0, 1)), (9, (1, 0)), (50, (1,))))
        self.assertEqual(cells_meaning(lot, meaning), Meaning(2, (
            (0, (0, 1)), (1, (1, 1, 0, 0)), (2, (0, 1, 1, 0, 0, 1, 1, 0)), (3, (1, 1)), (4, (1, 0, 1, 0)),
        )))

    def test_modulo_three(self):
        lot = lot_of_text("1: adds 0 as 5 | kept 0 | any 0 by 0 as 6")
        meaning = Meaning(3, ((5, (2,)), (6, (1, 1, 0))))
        self.assertEqual(cells_meaning(lot, meaning), Meaning(3, ((0, (2, 0, 1)), (1, (0, 1, 2)), (2, (1, 1, 0)))))

    def test_runs_in_it_are_runs_in_the_meaning(self):
        rng = random.Random("cells")
        for lot in LOTS:
            floor = cells_floor(lot)
            for modulus in (2, 3):
                meaning = made_up_meaning(rng, lot, modulus)
                at_cells = cells_meaning(lot, meaning)
                self.assertEqual(at_cells.modulus, modulus)
                self.assertEqual([name for name, _ in at_cells.tables], list(range(lot.total)))
                self.assertIs(check_meaning(floor, at_cells), at_cells)
                weavings = rng.sample(all_weavings(lot), min(len(all_weavings(lot)), 4))
                for store in plain_stores(lot, modulus):
                    for weaving in weavings:
                        moments = plain_moments(lot, modulus, dict(meaning.tables), weaving, store)
                        self.assertEqual(run_moments(floor, at_cells, weaving, store), moments)

    def test_what_cells_let_is_let_in_every_meaning(self):
        rng = random.Random("let at cells")
        for lot in LOTS:
            let = let_under(lot, made_up_meaning(rng, lot, 2))
            for weaving in all_weavings(lot):
                if all_orders(cells_floor(lot), weaving):
                    self.assertIn(weaving, let)

    def test_bad_meanings(self):
        for tables, what in ((((0, (1,)),), "name"), (((0, (1,)), (1, (0, 1)), (2, (0,)), (3, (0,))), "table")):
            self.refuses(BadMeaning, {"what": what}, cells_meaning, PAIRS, Meaning(2, tables))


class BitBarTest(GuardCase):
    def test_a_bar_exactly_if_there_is_a_ring_at_the_cells(self):
        lengths = set()
        for lot in LOTS:
            floor = cells_floor(lot)
            for weaving in all_weavings(lot):
                bar = bit_bar(lot, list(weaving))
                found = order_for(floor, weaving)
                self.assertEqual(bar is not None, isinstance(found, Ring))
                if bar is not None:
                    lengths.add(len(found.links))
                    self.assertIs(type(bar), BitBar)
                    self.assertIs(type(bar.meaning), Meaning)
                    self.assertEqual((type(bar.store), type(bar.stores)), (tuple, tuple))
                    self.assertTrue(all(type(store) is tuple for store in bar.stores))
                    self.assertIsNone(plain_fault(lot, weaving, bar))
                    self.assertIsNone(bit_fault(lot, weaving, bar))
        self.assertEqual(lengths, {2, 3})

    def test_it_is_not_let_in_the_meaning_of_the_bar(self):
        for lot in (PAIRS, SPLIT, THREE):
            for weaving in all_weavings(lot):
                bar = bit_bar(lot, weaving)
                if bar is not None:
                    self.assertIs(type(lets_under(cells_floor(lot), bar.meaning, weaving)), Breaks)

    def test_without_a_ring_it_is_let_in_every_meaning_of_two_worths(self):
        lot = lot_of_text("2: any 0 as 0 | any 0 as 1; any 1 as 2")
        floor = cells_floor(lot)
        tables = [[(name, table) for table in itertools.product((0, 1), repeat=length)]
                  for name, length in ((0, 2), (1, 2), (2, 4))]
        let = set(all_weavings(lot))
        for couples in itertools.product(*tables):
            let &= set(let_under(floor, Meaning(2, couples)))
        self.assertEqual(let, {weaving for weaving in all_weavings(lot) if bit_bar(lot, weaving) is None})
        self.assertEqual(let, set(all_weavings(lot)))

    def test_with_a_ring_some_meaning_of_two_worths_bars_it(self):
        lot = lot_of_text("1: any 0 as 0; any 0 as 1 | any 0 as 2")
        floor = cells_floor(lot)
        tables = [[(name, table) for table in itertools.product((0, 1), repeat=length)]
                  for name, length in ((0, 2), (1, 4), (2, 2))]
        let = set(all_weavings(lot))
        for couples in itertools.product(*tables):
            let &= set(let_under(floor, Meaning(2, couples)))
        self.assertEqual(let, {weaving for weaving in all_weavings(lot) if bit_bar(lot, weaving) is None})
        self.assertEqual(let, {(0, 0, 1), (1, 0, 0)})

    def test_only_the_cells_matter(self):
        for lot in LOTS:
            for weaving in all_weavings(lot)[:20]:
                self.assertEqual(bit_bar(lot, weaving) is None, bit_bar(cells_floor(lot), weaving) is None)


class BitFaultTest(GuardCase):
    def test_lists_may_stand_as_tuples(self):
        for lot, weaving in ((PAIRS, (0, 1, 1, 0)), (SPLIT, (0, 1, 0, 1)), (THREE, ROUND)):
            bar = bit_bar(lot, weaving)
            lists = BitBar(bar.meaning, list(bar.store), [list(store) for store in bar.stores])
            self.assertIsNone(bit_fault(lot, list(weaving), lists))
            self.assertIsNone(bit_fault(lot, weaving, BitBar(bar.meaning, list(bar.store), bar.stores)))

    def test_further_names_are_allowed(self):
        bar = bit_bar(PAIRS, (0, 1, 1, 0))
        more = Meaning(2, bar.meaning.tables + ((4, (1,)), (99, (0, 1))))
        self.assertIsNone(bit_fault(PAIRS, (0, 1, 1, 0), BitBar(more, bar.store, bar.stores)))

    def test_meaning(self):
        bar = bit_bar(PAIRS, (0, 1, 1, 0))
        tables = bar.meaning.tables
        self.assertEqual([name for name, _ in tables], [0, 1, 2, 3])
        three = Meaning(3, [(name, (0,) * (9 if name % 2 else 3)) for name in range(4)])
        wrong = [three, Meaning(2, ()), Meaning(3, ())]
        for at in range(4):
            wrong.append(Meaning(2, tables[:at] + tables[at + 1:]))
            wrong.append(Meaning(2, tables[:at] + ((at, (0,) * 8),) + tables[at + 1:]))
        for meaning in wrong:
            self.assertEqual(bit_fault(PAIRS, (0, 1, 1, 0), BitBar(meaning, bar.store, bar.stores)), "meaning")
            self.assertEqual(bit_fault(PAIRS, (0, 1, 1, 0), BitBar(meaning, None, None)), "meaning")

    def test_stores(self):
        bar = bit_bar(PAIRS, (0, 1, 1, 0))
        stores = list(bar.stores)

        def fault(store, given):
            return bit_fault(PAIRS, (0, 1, 1, 0), BitBar(bar.meaning, store, given))

        for wrong in (*OTHER_KINDS, 0, "00", {(0, 0): True}):
            self.assertEqual(fault(bar.store, wrong), "stores")
            self.assertEqual(fault(wrong, stores), "stores")
        for wrong in (*OTHER_KINDS, 0, "00", (), (0,), (0, 0, 0), (0, 2), (-1, 0), (0, True), [False, 0], (0, 1.0)):
            self.assertEqual(fault(bar.store, [wrong] + stores), "stores")
            self.assertEqual(fault(bar.store, stores + [wrong]), "stores")
            self.assertEqual(fault(bar.store, [*stores[:1], wrong, *stores[1:]]), "stores")
            self.assertEqual(fault(wrong, stores), "stores")
        self.assertEqual(fault(bar.store, stores[::-1]), "stores")
        self.assertEqual(fault(bar.store, stores + stores[-1:]), "stores")
        self.assertEqual(fault(bar.store, stores[:1] + stores), "stores")
        self.assertEqual(fault(bar.store, ()), "stores")
        self.assertEqual(fault((0, 0), [(0, 1), (1, 0)]), "stores")
        outside = [store for store in plain_stores(PAIRS, 2) if store not in stores]
        self.assertEqual({fault(store, stores) for store in outside}, {"stores"})

    def test_keeps_and_breaks(self):
        bar = bit_bar(PAIRS, (0, 1, 1, 0))
        every = plain_stores(PAIRS, 2)
        self.assertEqual(bit_fault(PAIRS, (0, 1, 1, 0), BitBar(bar.meaning, (1, 1), ((1, 1),))), "keeps")
        self.assertEqual(bit_fault(PAIRS, (0, 1, 1, 0), BitBar(bar.meaning, (0, 0), every)), "breaks")
        for weaving in all_weavings(PAIRS):
            if all_orders(PAIRS, weaving):
                self.assertEqual(bit_fault(PAIRS, weaving, bar), "breaks")

    def test_every_store_and_set_of_stores(self):
        rng = random.Random("bit faults")
        words = set()
        for lot, weaving in ((PAIRS, (0, 1, 1, 0)), (SPLIT, (0, 1, 0, 1)), (PAIRS, (0, 1, 0, 1)), (SPLIT, (1, 0, 0, 1))):
            floor = cells_floor(lot)
            stores = plain_stores(lot, 2)
            sets = [chosen for length in range(5) for chosen in itertools.combinations(stores, length)]
            meanings = [made_up_meaning(rng, floor, 2) for _ in range(12)]
            barred = bit_bar(lot, weaving)
            for meaning in meanings + ([barred.meaning] if barred else []):
                for chosen, store in itertools.product(sets, stores):
                    bar = BitBar(meaning, store, chosen)
                    expected = plain_fault(lot, weaving, bar)
                    self.assertEqual(bit_fault(lot, weaving, bar), expected)
                    words.add(expected)
        self.assertEqual(words, {"stores", "keeps", "breaks", None})

    def test_bars_that_are_wrong_at_one_entry(self):
        for lot, weaving in ((PAIRS, (0, 1, 1, 0)), (SPLIT, (0, 1, 0, 1)), (THREE, ROUND)):
            bar = bit_bar(lot, weaving)
            for at, (name, table) in enumerate(bar.meaning.tables):
                for index, entry in enumerate(table):
                    changed = list(bar.meaning.tables)
                    changed[at] = (name, table[:index] + (1 - entry,) + table[index + 1:])
                    tried = BitBar(Meaning(2, changed), bar.store, bar.stores)
                    self.assertEqual(bit_fault(lot, weaving, tried), plain_fault(lot, weaving, tried))


class HouseMeaningTest(GuardCase):
    def test_houses_of_lengths(self):
        for sizes in ((2, 1), (1, 2), (2, 2), (3, 2), (2, 1, 1), (2, 2, 3), (4, 3)):
            lot = blind_lot(*sizes)
            for weaving in all_weavings(lot)[::3]:
                house = lengths_bar(lot, weaving)
                if house is not None:
                    meaning = house_meaning(house)
                    self.assertEqual(meaning, Meaning(3, tuple(enumerate(house.tables))))
                    self.assertIs(check_meaning(house.lot, meaning), meaning)
                    self.assertEqual(lets_under(house.lot, meaning, weaving), Breaks((0,), ((0,),)))

    def test_its_tables(self):
        house = lengths_bar(PAIRS, (0, 1, 0, 1))
        self.assertEqual(house_meaning(house).tables, tuple(enumerate(((1, 2, 0), (2, 0, 1), (0, 2, 1), (0, 1, 2)))))
        for weaving in all_weavings(PAIRS):
            if is_unwoven(PAIRS, weaving):
                self.assertIs(type(lets_under(house.lot, house_meaning(house), weaving)), Ends)


class ResultTest(GuardCase):
    given = (Meaning(2, ((0, (0, 1)),)), (0,), ((0,),))

    def test_attributes(self):
        bar = BitBar(None, len, "x")
        self.assertEqual((bar.meaning, bar.store, bar.stores), (None, len, "x"))

    def test_equal_exactly_if_all_attributes_are(self):
        self.assertEqual(BitBar(*self.given), BitBar(Meaning(2, ((0, (0, 1)),)), (0,), ((0,),)))
        for index, other in enumerate((Meaning(2, ((0, (1, 0)),)), (1,), ((0,), (1,)))):
            changed = self.given[:index] + (other,) + self.given[index + 1:]
            self.assertTrue(BitBar(*self.given) != BitBar(*changed))
        for other in (*OTHER_KINDS, 0, self.given, self.given[0], Breaks((0,), ((0,),))):
            self.assertFalse(BitBar(*self.given) == other)


class ErrorsTest(GuardCase):
    def test_bad_weavings(self):
        lot = blind_lot(2, 1)
        for call, more in ((bit_bar, ()), (bit_fault, (BitBar(Meaning(3, ()), None, None),))):
            for weaving in (*OTHER_KINDS, 0, "001", (0, 0, 2), (0, False, 1), (0, 0, 1, -1)):
                self.refuses(BadWeaving, {"what": "form"}, call, lot, weaving, *more)
            for weaving in ((), (0, 0), (0, 1, 1), [0, 0, 1, 1]):
                self.refuses(BadWeaving, {"what": "length"}, call, lot, weaving, *more)

    def test_nothing_that_is_passed_in_is_changed(self):
        weaving = [0, 1, 1, 0]
        programs = PAIRS.programs
        bar = bit_bar(PAIRS, weaving)
        lists = BitBar(bar.meaning, list(bar.store), [list(store) for store in bar.stores])
        bit_fault(PAIRS, weaving, lists)
        self.assertEqual((weaving, PAIRS.programs), ([0, 1, 1, 0], programs))
        self.assertEqual((lists.store, lists.stores), (list(bar.store), [list(store) for store in bar.stores]))
        meaning = Meaning(2, [(name, (1,)) for name in range(4)])
        cells_meaning(PAIRS, meaning)
        self.assertEqual(meaning.tables, tuple((name, (1,)) for name in range(4)))


if __name__ == "__main__":
    unittest.main()
