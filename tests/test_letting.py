"""[4.4] to [4.7], [4.9], [3.1], [3.8]: the greatest guard."""

import itertools
import random
import unittest

from helper import (
    OTHER_KINDS, GuardCase, all_facts, blind_lot, brute_run, brute_stores, closure, made_up_lots, number_in,
)
from knownguards.errors import BadFact, BadWeaving
from knownguards.facts import cells_floor, with_facts
from knownguards.letting import Bar, Let, is_let, knows_less, let_weavings, letting
from knownguards.lots import Lot
from knownguards.lottexts import lot_of_text
from knownguards.orders import all_orders
from knownguards.outcomes import outcome_of, outcome_of_wholes
from knownguards.smallhouses import SmallHouse, small_begin, small_run, stores_from, told_worths
from knownguards.weavings import all_weavings, unwoven_weavings, weaving_without
from knownguards.worths import begun_store

EXAMPLE = lot_of_text("2: kept 0; any 0 by 0 as 0 | any 0 as 1; any 1 as 2")
SHORTER = lot_of_text("2: kept 0; any 0 by 0 as 0 | any 0 as 1")
LOTS = [
    EXAMPLE, SHORTER, blind_lot(4), blind_lot(1), blind_lot(1, 1, 1),
    lot_of_text("1: kept 0; kept 0 | kept 0"),
    lot_of_text("2: kept 0; any 1 as 0; adds 0 as 1 | adds 0 as 2; kept 1 | any 0 as 3; adds 1 as 4"),
    lot_of_text("1: adds 0 as 0; adds 0 as 0; adds 0 as 0 | adds 0 as 0 | any 0 as 1"),
    *made_up_lots(60, "letting"),
]


class House:
    """A lot with worths, as the brute runs of the other tests need it."""

    def __init__(self, lot, worths):
        self.lot = lot
        self.worths = worths


def told(lot, weaving):
    """The told worths, in a way of their own."""
    held = list(begun_store(lot.cells))
    done = [[] for _ in lot]
    store = list(held)
    for program in weaving:
        cell, kind, goes_by, name = lot.programs[program][len(done[program])]
        done[program].append(store[cell])
        worths = tuple(done[program][place] for place in goes_by)
        base, bag = store[cell]
        if kind == "any":
            store[cell] = ((1, name, worths), ())
        if kind == "adds":
            store[cell] = (base, tuple(sorted(bag + ((name, worths),))))
        held.append(store[cell])
    return closure(held), tuple(store)


def brute_letting(lot, weaving):
    """The row, or the worths, start and stores of the bar, by the words of [4.4]."""
    worths, outcome = told(lot, weaving)
    house = House(lot, worths)
    start = tuple(number_in(house, worth) for worth in begun_store(lot.cells))
    goal = tuple(number_in(house, worth) for worth in outcome)
    stores = brute_stores(house, start)
    if goal not in stores:
        return worths, start, stores
    rows = [((), start)]
    while True:
        for row, store in rows:
            if store == goal:
                return row
        rows = [
            ((*row, program), brute_run(house, store, [program] * size))
            for row, store in rows for program, size in enumerate(lot.sizes)
        ]


def least_row_of_worths(lot, weaving, most):
    """The least row of at most so many programs that ends in the outcome, over free worths."""
    outcome = outcome_of(lot, weaving)
    for length in range(most + 1):
        for row in itertools.product(range(len(lot)), repeat=length):
            if sum(lot.sizes[program] for program in row) <= 14 and outcome_of_wholes(lot, row) == outcome:
                return row
    return None


class LettingTest(GuardCase):
    def test_every_weaving_of_some_lots(self):
        for lot in LOTS:
            let = []
            for weaving in all_weavings(lot):
                found = letting(lot, weaving)
                expected = brute_letting(lot, weaving)
                if isinstance(found, Let):
                    let.append(weaving)
                    self.assertEqual((found.row, type(found.row)), (expected, tuple))
                else:
                    self.assertIs(type(found), Bar)
                    self.assertEqual((found.worths, found.start, found.stores), expected)
                    self.assertEqual(repr((found.worths, found.start, found.stores)), repr(expected))
                self.assertIs(is_let(lot, list(weaving)), isinstance(found, Let))
                self.assertEqual(letting(lot, list(weaving)), found)
            self.assertEqual(let_weavings(lot), tuple(let))

    def test_rows_are_the_least_over_free_worths(self):
        rng = random.Random("least rows")
        for lot in made_up_lots(80, "least rows"):
            for weaving in rng.sample(all_weavings(lot), 1):
                row = least_row_of_worths(lot, weaving, 4 if len(lot) < 3 else 3)
                found = letting(lot, weaving)
                if row is not None:
                    self.assertEqual(found, Let(row))
                elif isinstance(found, Let):
                    self.assertGreater(len(found.row), 3)

    def test_bars_are_made_of_told_worths_and_stores_of_their_house(self):
        for lot in LOTS:
            for weaving in all_weavings(lot)[:30]:
                found = letting(lot, weaving)
                if isinstance(found, Bar):
                    house = SmallHouse(lot, found.worths)
                    self.assertEqual(found.worths, told_worths(lot, weaving))
                    self.assertEqual(found.start, small_begin(house))
                    self.assertEqual(found.stores, stores_from(house, found.start))
                    self.assertNotIn(small_run(house, found.start, weaving), found.stores)

    def test_rows_of_every_sort(self):
        for text, weaving, row in (
            ("1: kept 0; kept 0 | kept 0", (0, 1, 0), ()),
            ("2: kept 0; any 0 by 0 as 0 | any 0 as 1", (0, 1, 0), (0,)),
            ("3: any 1 by 0 as 80", (0,), (0,)),
            ("2: any 0 as 0; any 1 as 1 | any 0 as 2; any 1 as 3", (0, 1, 0, 1), (1,)),
            ("1: any 0 by 0 as 5; any 0 by 1 as 5 | any 0 by 0 as 5; any 0 by 1 as 5 | any 0 by 0 as 5",
             (0, 1, 2, 0, 1), (0, 0, 2)),
            ("1: any 0 as 1 | adds 0 as 2; adds 0 as 2; adds 0 as 2 | adds 0 as 2", (1, 1, 0, 1, 2), (0, 2, 2)),
            ("1: any 0 as 1 | adds 0 as 2; adds 0 as 2; adds 0 as 2 | adds 0 as 2", (1, 0, 1, 2, 1), (0, 1)),
            ("2: any 0 as 0; any 1 as 1 | adds 0 as 2; adds 0 as 2; adds 0 as 2; any 1 as 3 | adds 0 as 2",
             (0, 1, 1, 1, 1, 0, 2), (0, 2, 2, 2, 2)),
            ("1: any 0 by 0 as 97; any 0 by 1 as 97; any 0 by 0 as 90 | any 0 by 0 as 25 | "
             "kept 0; any 0 by 1 as 90; any 0 by 1 as 97", (0, 0, 2, 2, 0, 1, 2), (2, 2, 2)),
            ("2: any 0 as 55 | any 0 by 0 as 96; kept 1; any 1 by 0 as 97; any 1 by 1 as 96 | "
             "any 0 by 0 as 30; any 1 by 0 as 75", (1, 2, 0, 2, 1, 1, 1), (1, 2, 1, 0)),
        ):
            lot = lot_of_text(text)
            self.assertEqual(letting(lot, weaving), Let(row))
            self.assertEqual(outcome_of_wholes(lot, row), outcome_of(lot, weaving))

    def test_the_example_of_the_document(self):
        self.assertIs(type(letting(EXAMPLE, (0, 1, 0, 1))), Bar)
        self.assertFalse(is_let(EXAMPLE, (0, 1, 0, 1)))
        self.assertEqual(letting(SHORTER, (0, 1, 0)), Let((0,)))

    def test_every_unwoven_weaving_is_let(self):
        for lot in LOTS:
            let = let_weavings(lot)
            self.assertEqual([weaving for weaving in unwoven_weavings(lot) if weaving not in let], [])

    def test_lots_of_one_program(self):
        for lot in made_up_lots(60, "alone"):
            alone = Lot(lot.cells, lot.programs[:1])
            (weaving,) = all_weavings(alone)
            looks_only = all(step[1] == "kept" for step in alone.programs[0])
            self.assertEqual(letting(alone, weaving), Let(() if looks_only else (0,)))

    def test_weavings_with_an_order_are_let_and_at_the_floor_no_others(self):
        for lot in LOTS:
            floor = cells_floor(lot)
            for weaving in all_weavings(lot):
                if all_orders(lot, weaving):
                    self.assertTrue(is_let(lot, weaving))
                self.assertEqual(is_let(floor, weaving), all_orders(floor, weaving) != ())


class OneHouseTest(GuardCase):
    """[4.5]: one house bars all barred weavings; in any other a let weaving stays in all rules."""

    def test_the_house_of_all_told_worths(self):
        for lot in made_up_lots(40, "one house"):
            if lot.total < 6:
                worths = closure([worth for weaving in all_weavings(lot) for worth in told_worths(lot, weaving)])
                house = SmallHouse(lot, worths)
                start = small_begin(house)
                stores = stores_from(house, start)
                for weaving in all_weavings(lot):
                    self.assertEqual(small_run(house, start, weaving) in stores, is_let(lot, weaving))

    def test_let_weavings_in_other_houses_and_from_other_stores(self):
        rng = random.Random("other houses")
        for lot in made_up_lots(40, "other houses"):
            worths = closure(rng.sample(told_worths(lot, all_weavings(lot)[-1]), 1))
            house = SmallHouse(lot, worths)
            store = tuple(rng.randrange(house.junk + 1) for _ in range(lot.cells))
            stores = stores_from(house, store)
            for weaving in let_weavings(lot):
                self.assertIn(small_run(house, store, weaving), stores)


class KnowsLessTest(GuardCase):
    def test_what_more_facts_let(self):
        lot = cells_floor(SHORTER)
        facts = [("kept", 0, 0), ("without", 0, 1, 1), ("without", 1, 0, 0)]
        self.assertEqual(knows_less(lot, [], facts), ((0, 1, 0),))
        self.assertEqual(knows_less(lot, facts, []), ())
        self.assertEqual(knows_less(lot, facts, tuple(facts)), ())
        self.assertEqual(knows_less(lot, facts[:1], facts), ((0, 1, 0),))
        self.assertEqual(knows_less(lot, facts[:2], facts), ())

    def test_it_is_the_difference(self):
        rng = random.Random("differences")
        for lot in [cells_floor(lot) for lot in made_up_lots(25, "differences")]:
            sets = []
            for _ in range(2):
                told_facts = []
                for fact in rng.sample(all_facts(lot), min(6, len(all_facts(lot)))):
                    try:
                        with_facts(lot, told_facts + [fact])
                        told_facts.append(fact)
                    except BadFact:
                        pass
                sets.append(told_facts)
            one, other = [let_weavings(with_facts(lot, facts)) for facts in sets]
            self.assertEqual(knows_less(lot, *sets), tuple(sorted(set(other) - set(one))))

    def test_more_facts_bar_nothing_that_fewer_let(self):
        rng = random.Random("more facts")
        for lot in [cells_floor(lot) for lot in made_up_lots(25, "more facts")]:
            facts = [fact for fact in all_facts(lot) if fact[0] != "same"]
            less, more = [], []
            for fact in rng.sample(facts, min(8, len(facts))):
                try:
                    with_facts(lot, more + [fact])
                    with_facts(lot, less + [fact])
                except BadFact:
                    continue
                more.append(fact)
                if rng.random() < 0.5:
                    less.append(fact)
            self.assertEqual(knows_less(lot, more, less), ())

    def test_errors_of_facts_come_ahead_of_those_of_more(self):
        lot = cells_floor(SHORTER)
        same, kept, without = ("same", 0, 0, 0, 1), ("kept", 0, 0), ("without", 0, 0, 0)
        for wrong in (*OTHER_KINDS, 0, "facts", [kept] * 41):
            self.refuses(BadFact, {"index": -1}, knows_less, lot, wrong, [None])
            self.refuses(BadFact, {"index": -1}, knows_less, lot, [kept], wrong)
        for wrong in (*OTHER_KINDS, (), ("kept", 0, True), ("kept", 2, 0), ("same", 0, 1, 0, 0)):
            self.refuses(BadFact, {"index": 1}, knows_less, lot, [kept, wrong], None)
            self.refuses(BadFact, {"index": 1}, knows_less, lot, [kept], [kept, wrong])
        self.refuses(BadFact, {"index": 2}, knows_less, lot, [kept, kept, without], [None])
        self.refuses(BadFact, {"index": 0}, knows_less, lot, [same], None)
        self.refuses(BadFact, {"index": 1}, knows_less, lot, [], [without, kept])
        self.refuses(BadFact, {"index": 0}, knows_less, lot, [without], [same])


class NeverMatterTest(GuardCase):
    """[4.7]: some steps never matter, and neither do names and numbers."""

    def test_kept_steps_whose_pockets_no_step_goes_by(self):
        seen = 0
        for lot in made_up_lots(120, "kept"):
            for program, steps in enumerate(lot):
                for place, step in enumerate(steps):
                    if step[1] == "kept" and len(steps) > 1 and all(place not in other[2] for other in steps):
                        self.check_without(lot, program, place)
                        seen += 1
        self.assertGreater(seen, 20)

    def check_without(self, lot, program, place):
        """The same weavings are let without the step at this place."""
        fallen = [
            (cell, kind, tuple(at - (at > place) for at in goes_by), name)
            for cell, kind, goes_by, name in lot.programs[program]
        ]
        del fallen[place]
        less = Lot(lot.cells, lot.programs[:program] + (fallen,) + lot.programs[program + 1:])
        for weaving in all_weavings(lot):
            at = [index for index, item in enumerate(weaving) if item == program][place]
            self.assertEqual(is_let(lot, weaving), is_let(less, weaving[:at] + weaving[at + 1:]))

    def test_programs_that_only_look(self):
        for lot in made_up_lots(30, "looks"):
            if lot.total < 6 and len(lot) < 3:
                looking = lot.with_program(((0, "kept", (), -1), (lot.cells - 1, "kept", (), -1)))
                for weaving in all_weavings(looking):
                    left = weaving_without(looking, weaving, len(lot))
                    self.assertEqual(is_let(looking, weaving), is_let(lot, left))

    def test_names_cells_and_programs_in_another_order(self):
        rng = random.Random("numbered")
        for lot in made_up_lots(30, "numbered"):
            names = rng.sample(range(100), 100) + [-1]
            cells = rng.sample(range(lot.cells), lot.cells)
            programs = rng.sample(range(len(lot)), len(lot))
            numbered = Lot(lot.cells, [
                [(cells[cell], kind, goes_by, names[name]) for cell, kind, goes_by, name in lot.programs[program]]
                for program in programs
            ])
            let = [tuple(programs[program] for program in weaving) for weaving in let_weavings(numbered)]
            self.assertEqual(tuple(sorted(let)), let_weavings(lot))


class ResultsTest(GuardCase):
    def test_attributes(self):
        self.assertEqual(Let((0, 1)).row, (0, 1))
        bar = Bar(1, len, "x")
        self.assertEqual((bar.worths, bar.start, bar.stores), (1, len, "x"))

    def test_equal_exactly_if_all_attributes_are(self):
        self.assertEqual(Let((0, 1)), Let((0, 1)))
        self.assertTrue(Let((0, 1)) != Let((0,)))
        self.assertEqual(Bar((), (0,), ((0,),)), Bar((), (0,), ((0,),)))
        for other in (Bar((1,), (0,), ((0,),)), Bar((), (1,), ((0,),)), Bar((), (0,), ())):
            self.assertTrue(Bar((), (0,), ((0,),)) != other)
        for other in (*OTHER_KINDS, 0, (), (0, 1), ((), (0,), ((0,),)), Bar((0, 1), (0,), ())):
            self.assertFalse(Let((0, 1)) == other)
        for other in (*OTHER_KINDS, 0, (), ((), (0,), ((0,),)), Let(())):
            self.assertFalse(Bar((), (0,), ((0,),)) == other)


class ErrorsTest(GuardCase):
    def test_bad_weavings(self):
        lot = blind_lot(2, 1)
        for call in (letting, is_let):
            for weaving in (*OTHER_KINDS, 0, "001", (0, 0, 2), (0, False, 1), (0, 0, 1, -1)):
                self.refuses(BadWeaving, {"what": "form"}, call, lot, weaving)
            for weaving in ((), (0, 0), (0, 1, 1), [0, 0, 1, 1]):
                self.refuses(BadWeaving, {"what": "length"}, call, lot, weaving)

    def test_nothing_that_is_passed_in_is_changed(self):
        weaving, facts = [0, 1, 0, 1], [["kept", 0, 0]]
        programs = EXAMPLE.programs
        letting(EXAMPLE, weaving)
        is_let(EXAMPLE, weaving)
        let_weavings(EXAMPLE)
        knows_less(EXAMPLE, facts, facts)
        self.assertEqual((weaving, facts, EXAMPLE.programs), ([0, 1, 0, 1], [["kept", 0, 0]], programs))


if __name__ == "__main__":
    unittest.main()
