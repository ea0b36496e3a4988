"""[4.8]: the judges of rows and bars."""

import itertools
import random
import unittest

from helper import (
    OTHER_KINDS, GuardCase, blind_lot, brute_run, brute_stores, closure, made_up_lots, number_in,
)
from knownguards.bars import bar_fault, let_fault
from knownguards.errors import BadWeaving
from knownguards.letting import Bar, Let, letting
from knownguards.lottexts import lot_of_text
from knownguards.outcomes import outcome_of, outcome_of_wholes
from knownguards.smallhouses import SmallHouse, told_worths
from knownguards.weavings import all_weavings, check_weaving
from knownguards.worths import added_worth, bags_within, begun_store, made_worth, parts_of

B0, B1, B2 = begun_store(3)
EXAMPLE = lot_of_text("2: kept 0; any 0 by 0 as 0 | any 0 as 1; any 1 as 2")
BARRED = (0, 1, 0, 1)
SHORTER = lot_of_text("2: kept 0; any 0 by 0 as 0 | any 0 as 1")


def barred_of(lots):
    """Each lot with a weaving that is barred, and the bar."""
    found = []
    for lot in lots:
        for weaving in all_weavings(lot):
            bar = letting(lot, weaving)
            if isinstance(bar, Bar):
                found.append((lot, weaving, bar))
                break
    return found


BARS = barred_of([EXAMPLE, *made_up_lots(150, "bars")])


def brute_fault(lot, weaving, bar):
    """The first word of [4.8], for bars whose worths are tuples of worths and whose stores are rows of numbers."""
    worths, start, stores = bar.worths, bar.start, bar.stores
    if list(worths) != sorted(set(worths)):
        return "worths"
    if any(part not in worths for worth in worths for part in parts_of(worth) + bags_within(worth)):
        return "parts"
    house = SmallHouse(lot, worths)
    good = set(itertools.product(range(len(worths) + 1), repeat=lot.cells))
    stores = [tuple(store) for store in stores]
    if stores != sorted(set(stores)) or not set(stores) <= good or tuple(start) not in stores:
        return "stores"
    for store in stores:
        for program, size in enumerate(lot.sizes):
            if brute_run(house, store, [program] * size) not in stores:
                return "keeps"
    return "breaks" if brute_run(house, tuple(start), weaving) in stores else None


class LetFaultTest(GuardCase):
    def test_right_rows(self):
        for row in ((0,), [0], (1, 0, 0)[2:]):
            self.assertIsNone(let_fault(SHORTER, (0, 1, 0), Let(row)))
        lot = lot_of_text("1: any 0 as 1 | kept 0")
        for row in ((0,), (0, 0), (1, 0), (0, 1, 1), [1, 0, 1, 0], (1, 0) * 3000):
            self.assertIsNone(let_fault(lot, [1, 0], Let(row)))
        looks = lot_of_text("1: kept 0")
        self.assertIsNone(let_fault(looks, (0,), Let(())))
        self.assertIsNone(let_fault(looks, (0,), Let((0,) * 9)))

    def test_every_row_of_up_to_three_programs(self):
        rng = random.Random("let faults")
        for lot in made_up_lots(40, "let faults"):
            weaving = rng.choice(all_weavings(lot))
            outcome = outcome_of(lot, weaving)
            for length in range(4):
                for row in itertools.product(range(len(lot)), repeat=length):
                    if sum(lot.sizes[program] for program in row) <= 14:
                        expected = None if outcome_of_wholes(lot, row) == outcome else "ends"
                        self.assertEqual(let_fault(lot, weaving, Let(row)), expected)

    def test_rows_of_letting(self):
        for lot in made_up_lots(40, "rows of letting"):
            for weaving in all_weavings(lot):
                found = letting(lot, weaving)
                if isinstance(found, Let):
                    self.assertIsNone(let_fault(lot, weaving, found))

    def test_no_rows(self):
        for wrong in (*OTHER_KINDS, 0, "0", b"\0", {0: 0}):
            self.assertEqual(let_fault(SHORTER, (0, 1, 0), Let(wrong)), "row")
        for wrong in (*OTHER_KINDS, -1, 2, (0,), "0"):
            self.assertEqual(let_fault(SHORTER, (0, 1, 0), Let((0, wrong))), "row")
            self.assertEqual(let_fault(SHORTER, (0, 1, 0), Let([wrong, 0])), "row")
        self.assertEqual(let_fault(SHORTER, (0, 1, 0), Let((0,) * 5000 + (2,))), "row")

    def test_rows_that_end_elsewhere(self):
        for row in ((), (1,), (0, 1), (1, 0), (0, 0), [0] * 5000, (1, 0) * 2000):
            self.assertEqual(let_fault(SHORTER, (0, 1, 0), Let(row)), "ends")
        for row in itertools.product((0, 1), repeat=4):
            self.assertEqual(let_fault(EXAMPLE, BARRED, Let(row)), "ends")

    def test_each_item_of_a_long_row_is_done(self):
        counts = lot_of_text("1: adds 0 as 1; adds 0 as 1; adds 0 as 1 | adds 0 as 1; adds 0 as 1")
        self.assertIsNone(let_fault(counts, (0, 1, 0, 1, 0), Let((0, 1))))
        self.assertIsNone(let_fault(counts, (0, 1, 0, 1, 0), Let([1, 0])))
        self.assertEqual(let_fault(counts, (0, 1, 0, 1, 0), Let((1, 1))), "ends")
        self.assertEqual(let_fault(counts, (0, 1, 0, 1, 0), Let((1, 0) + (1,) * 4000)), "ends")
        lot = lot_of_text("1: any 0 by 0 as 1 | any 0 as 2")
        self.assertIsNone(let_fault(lot, (1, 0), Let((0,) * 4000 + (1, 0))))
        self.assertEqual(let_fault(lot, (1, 0), Let((1, 0) + (0,) * 4000)), "ends")


class BarFaultTest(GuardCase):
    def test_bars_of_letting_are_right(self):
        self.assertGreater(len(BARS), 25)
        for lot, weaving, bar in BARS:
            self.assertIsNone(bar_fault(lot, weaving, bar))
            self.assertIsNone(bar_fault(lot, list(weaving), bar))

    def test_lists_may_stand_in_the_place_of_tuples(self):
        for lot, weaving, bar in BARS:
            lists = Bar(list(bar.worths), list(bar.start), [list(store) for store in bar.stores])
            self.assertIsNone(bar_fault(lot, weaving, lists))
            mixed = Bar(bar.worths, list(bar.start), (list(bar.stores[0]), *bar.stores[1:]))
            self.assertIsNone(bar_fault(lot, weaving, mixed))

    def test_let_weavings_have_no_right_bar(self):
        for lot, weaving, bar in BARS:
            for other in all_weavings(lot):
                found = letting(lot, other)
                expected = "breaks" if isinstance(found, Let) else brute_fault(lot, other, bar)
                self.assertEqual(bar_fault(lot, other, bar), expected)

    def test_other_closed_worths_and_other_starts(self):
        rng = random.Random("other bars")
        right = 0
        for lot, weaving, bar in BARS:
            more = [worth for other in all_weavings(lot)[:3] for worth in told_worths(lot, other)]
            for worths in (closure(bar.worths + tuple(more[:6])), closure(rng.sample(bar.worths, 2)), bar.worths):
                house = SmallHouse(lot, worths)
                begin = tuple(number_in(house, worth) for worth in begun_store(lot.cells))
                for start in (begin, tuple(rng.randrange(house.junk + 1) for _ in begin)):
                    stores = brute_stores(house, start)
                    for kept in (stores, sorted(stores + brute_stores(house, (house.junk,) * lot.cells))):
                        tried = Bar(worths, start, tuple(kept))
                        expected = brute_fault(lot, weaving, tried)
                        self.assertEqual(bar_fault(lot, weaving, tried), expected)
                        right += expected is None
        self.assertGreater(right, len(BARS))

    def test_bars_that_are_wrong_at_one_place(self):
        rng = random.Random("wrong bars")
        words = []
        for lot, weaving, bar in BARS:
            worths, start, stores = list(bar.worths), bar.start, list(bar.stores)
            at, other = rng.randrange(len(worths)), rng.randrange(len(worths))
            index = rng.randrange(len(stores))
            swapped = list(worths)
            swapped[at], swapped[other] = swapped[other], swapped[at]
            moved = list(start)
            moved[0] = rng.randrange(len(worths) + 1)
            strange = [*stores[index]]
            strange[-1] = rng.randrange(len(worths) + 1)
            for tried in (
                Bar(swapped, start, stores), Bar(worths[:at] + worths[at + 1:], start, stores),
                Bar(worths[:at] + [worths[at]] + worths[at:], start, stores), Bar(worths, moved, stores),
                Bar(worths, start, stores[:index] + stores[index + 1:]), Bar(worths, start, stores[::-1]),
                Bar(worths, start, stores[:index] + [stores[index]] + stores[index:]), Bar(worths, start, ()),
                Bar(worths, start, sorted(set(stores) | {tuple(strange)})), Bar(worths, start, [start]),
                Bar(worths, start, sorted(set(stores) | {brute_run(SmallHouse(lot, worths), start, weaving)})),
            ):
                expected = brute_fault(lot, weaving, tried)
                self.assertEqual(bar_fault(lot, weaving, tried), expected)
                words.append(expected)
        self.assertEqual(set(words), {"worths", "parts", "stores", "keeps", "breaks", None})


class WordsTest(GuardCase):
    bar = letting(EXAMPLE, BARRED)

    def fault(self, worths=None, start=None, stores=None):
        given = (worths, start, stores)
        fields = (self.bar.worths, self.bar.start, self.bar.stores)
        return bar_fault(EXAMPLE, BARRED, Bar(*[new or old for new, old in zip(given, fields)]))

    def test_worths(self):
        worths = list(self.bar.worths)
        for wrong in (*OTHER_KINDS, 0, "worths", {B0: True}, set(worths)):
            self.assertEqual(bar_fault(EXAMPLE, BARRED, Bar(wrong, None, None)), "worths")
        for wrong in (*OTHER_KINDS, 0, (), [(0, 0), ()], [[0, 0], []], ((0, True), ()), ((0, False), ()), ((0, 0), [])):
            self.assertEqual(self.fault(worths + [wrong]), "worths")
            self.assertEqual(self.fault([wrong] + worths[1:]), "worths")
        self.assertEqual(self.fault(worths[::-1]), "worths")
        self.assertEqual(self.fault(worths[:1] + worths), "worths")
        self.assertEqual(self.fault(worths + worths[-1:]), "worths")
        self.assertEqual(self.fault([[*worth] for worth in worths]), "worths")

    def test_parts(self):
        worths = self.bar.worths
        self.assertEqual(self.fault(tuple(sorted(worths + (made_worth(9, (B2,)),)))), "parts")
        self.assertEqual(self.fault(tuple(sorted(worths + (added_worth(B2, 1, ()),)))), "parts")
        self.assertEqual(self.fault(worths[1:]), "parts")

    def test_stores(self):
        start, stores, junk = self.bar.start, list(self.bar.stores), len(self.bar.worths)
        for wrong in (*OTHER_KINDS, 0, "stores", {start: True}):
            self.assertEqual(bar_fault(EXAMPLE, BARRED, Bar(self.bar.worths, start, wrong)), "stores")
            self.assertEqual(bar_fault(EXAMPLE, BARRED, Bar(self.bar.worths, wrong, stores)), "stores")
        for wrong in (*OTHER_KINDS, 0, "00", (), (0,), (0, 0, 0), (0, junk + 1), (-1, 0), (0, True), (False, 1),
                      (0, 1.0), (0, None)):
            self.assertEqual(self.fault(stores=stores + [wrong]), "stores")
            self.assertEqual(self.fault(stores=[wrong] + stores), "stores")
            self.assertEqual(self.fault(stores=[*stores[:1], wrong, *stores[1:]]), "stores")
        self.assertEqual(start, (0, 1))
        for wrong in ((0, True), [False, 1], (0, 1.0), ("0", "1"), (0,), (0, 1, 0), (junk, junk), (0, -1), (0, [1])):
            self.assertEqual(self.fault(start=wrong), "stores")
        self.assertEqual(bar_fault(EXAMPLE, BARRED, Bar(self.bar.worths, start, ())), "stores")
        self.assertEqual(self.fault(stores=stores[::-1]), "stores")
        self.assertEqual(self.fault(stores=stores + stores[-1:]), "stores")
        self.assertEqual(self.fault(stores=[store for store in stores if store != start]), "stores")

    def test_keeps_and_breaks(self):
        stores = self.bar.stores
        end = brute_run(SmallHouse(EXAMPLE, self.bar.worths), self.bar.start, BARRED)
        self.assertEqual(self.fault(stores=(self.bar.start,)), "keeps")
        for store in stores:
            if store != self.bar.start:
                self.assertEqual(self.fault(stores=[other for other in stores if other != store]), "keeps")
        every = tuple(itertools.product(range(len(self.bar.worths) + 1), repeat=2))
        self.assertEqual(self.fault(stores=every), "breaks")
        self.assertIn(end, every)
        all_is_junk = Bar((), (0, 0), ((0, 0),))
        self.assertEqual(bar_fault(SHORTER, (0, 1, 0), all_is_junk), "breaks")
        self.assertEqual(bar_fault(EXAMPLE, BARRED, all_is_junk), "breaks")

    def test_the_first_word_that_applies(self):
        worths, start, stores = self.bar.worths, self.bar.start, self.bar.stores
        self.assertEqual(bar_fault(EXAMPLE, BARRED, Bar(worths[:0:-1], None, None)), "worths")
        self.assertEqual(bar_fault(EXAMPLE, BARRED, Bar(worths[1:], None, None)), "parts")
        self.assertEqual(bar_fault(EXAMPLE, BARRED, Bar(worths, start, stores[:1] + ((99, 99),))), "stores")
        self.assertEqual(bar_fault(EXAMPLE, BARRED, Bar(worths, (0, True), stores[:2])), "stores")
        all_but_one = tuple(
            store for store in itertools.product(range(len(worths) + 1), repeat=2) if store != stores[-1]
        )
        self.assertEqual(bar_fault(EXAMPLE, BARRED, Bar(worths, start, all_but_one)), "keeps")


class ErrorsTest(GuardCase):
    def test_bad_weavings_come_ahead_of_all_words(self):
        lot = blind_lot(2, 1)
        for call, judged in ((let_fault, Let(None)), (bar_fault, Bar(None, None, None))):
            for weaving in (*OTHER_KINDS, 0, "001", (0, 0, 2), (0, False, 1), (0, 0, 1, -1)):
                self.refuses(BadWeaving, {"what": "form"}, call, lot, weaving, judged)
            for weaving in ((), (0, 0), (0, 1, 1), [0, 0, 1, 1]):
                self.refuses(BadWeaving, {"what": "length"}, call, lot, weaving, judged)

    def test_nothing_that_is_passed_in_is_changed(self):
        weaving = [0, 1, 0, 1]
        found = letting(EXAMPLE, weaving)
        row = [1, 0]
        bar = Bar(list(found.worths), list(found.start), [list(store) for store in found.stores])
        let_fault(EXAMPLE, weaving, Let(row))
        bar_fault(EXAMPLE, weaving, bar)
        self.assertEqual((weaving, row), ([0, 1, 0, 1], [1, 0]))
        self.assertEqual(check_weaving(EXAMPLE, weaving), BARRED)
        self.assertEqual(bar.worths, list(found.worths))
        self.assertEqual((bar.start, bar.stores), (list(found.start), [list(store) for store in found.stores]))


if __name__ == "__main__":
    unittest.main()
