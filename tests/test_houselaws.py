"""[6.1] to [6.5] and the second example of [6.10]: rules of the house."""

import functools
import random
import types
import unittest

from helper import (
    OTHER_KINDS, GuardCase, all_sets, least_of, made_up_lots, made_up_meaning, plain_moments, plain_stores,
)
from knownguards.closedlots import closed_lot, let_under
from knownguards.errors import BadMeaning, BadStores, BadWeaving, BadWish, NotKept, TooMany
from knownguards.houselaws import (
    brought_along, check_stores, greatest_rule, kept_rules, least_broken, least_rule, right_fault, right_weavings,
    rule_fault, single_rules,
)
from knownguards.lots import Lot
from knownguards.lottexts import lot_of_text
from knownguards.meanings import Meaning
from knownguards.weavings import all_weavings, unwoven_weavings

EXAMPLE = lot_of_text("1: any 0 by 0 as 0; any 0 by 1 as 1 | any 0 by 0 as 2")
TURNS = Meaning(3, ((0, (1, 2, 0)), (1, (2, 0, 1)), (2, (0, 2, 1))))
LOT = lot_of_text("2: kept 0; any 0 by 0 1 as 7; adds 1 by 0 as 3 | any 1 as 5; any 0 by 0 as 2")
MEANING = Meaning(2, ((2, (1, 0)), (3, (0, 1)), (5, (1,)), (7, (0, 1, 1, 0))))


class House:
    """A lot in a meaning, with the store to which each program and each weaving leads each store."""

    def __init__(self, lot, meaning):
        self.lot, self.meaning = lot, meaning
        self.stores = plain_stores(lot, meaning.modulus)
        self.weavings = all_weavings(lot)
        self.by_program = [self.led([program] * size) for program, size in enumerate(lot.sizes)]
        self.by_weaving = {weaving: self.led(weaving) for weaving in self.weavings}

    def led(self, steps):
        modulus, tables = self.meaning.modulus, dict(self.meaning.tables)
        return {store: plain_moments(self.lot, modulus, tables, steps, store)[-1] for store in self.stores}

    def keeps(self, rule, weavings=()):
        """Each program, and each of the weavings, leads the rule into itself."""
        leads = self.by_program + [self.by_weaving[weaving] for weaving in weavings]
        return all(lead[store] in rule for lead in leads for store in rule)

    @functools.cache
    def kept_rules(self):
        return [rule for rule in all_sets(self.stores) if self.keeps(rule)]

    @functools.cache
    def right(self, rule):
        return tuple(
            weaving for weaving in self.weavings if all(self.by_weaving[weaving][store] in rule for store in rule)
        )

    def closed(self, stores, weavings=()):
        """The least rule, one round after the other."""
        leads = self.by_program + [self.by_weaving[tuple(weaving)] for weaving in weavings]
        rule = set(stores)
        while True:
            more = rule | {lead[store] for lead in leads for store in rule}
            if more == rule:
                return tuple(sorted(rule))
            rule = more

    def opened(self, stores, weavings=()):
        """The greatest rule, one round after the other."""
        leads = self.by_program + [self.by_weaving[tuple(weaving)] for weaving in weavings]
        rule = set(stores)
        while True:
            less = {store for store in rule if all(lead[store] in rule for lead in leads)}
            if less == rule:
                return tuple(sorted(rule))
            rule = less


def houses(many, seed, shapes=((1, 2), (2, 2), (1, 3), (3, 2), (2, 3))):
    """Houses of lots of two or three programs with so many cells and so many worths."""
    rng = random.Random(seed)
    found = []
    for lot in made_up_lots(12 * many, seed):
        modulus = rng.choice((2, 3))
        if (lot.cells, modulus) in shapes and len(lot) > 1 and 3 <= lot.total <= 6 and len(found) < many:
            found.append(House(lot, made_up_meaning(rng, lot, modulus)))
    return found


def house_taking_back(rng, cells, modulus):
    """A house of which most programs take back what they did, so that weavings break much."""
    programs, tables = [], []

    def add_step(steps, cell, table):
        steps.append((cell, "any", (len(steps),), len(tables)))
        tables.append(table)

    for _ in range(rng.choice((2, 2, 3))):
        steps, cell = [], rng.randrange(cells)
        table = rng.sample(range(modulus), modulus)
        add_step(steps, cell, table)
        if rng.random() < 0.3:
            add_step(steps, rng.randrange(cells), [rng.randrange(modulus) for _ in range(modulus)])
        if rng.random() < 0.8:
            add_step(steps, cell, [table.index(worth) for worth in range(modulus)])
        programs.append(steps)
    if sum(len(steps) for steps in programs) > 6:
        return house_taking_back(rng, cells, modulus)
    return House(Lot(cells, programs), Meaning(modulus, list(enumerate(tables))))


def houses_taking_back(many, seed, shapes=((1, 2), (2, 2), (1, 3), (3, 2), (2, 3))):
    rng = random.Random(seed)
    return [house_taking_back(rng, *shapes[at % len(shapes)]) for at in range(many)]


SMALL = houses(12, "small") + houses_taking_back(30, "back")
LARGE = houses(5, "large", ((3, 3),)) + houses_taking_back(6, "large", ((3, 3),))


def some_stores(rng, house):
    """Stores of the house in any order, some of them twice, some as lists."""
    stores = rng.choices(house.stores, k=rng.randint(0, len(house.stores)))
    return [list(store) if rng.random() < 0.3 else store for store in stores]


class CheckStoresTest(GuardCase):
    def test_ascending_and_each_once(self):
        self.assertEqual(check_stores(LOT, MEANING, [[1, 0], (0, 1), [1, 0], (0, 0)]), ((0, 0), (0, 1), (1, 0)))
        self.assertEqual(check_stores(LOT, MEANING, ()), ())
        self.assertEqual(check_stores(EXAMPLE, TURNS, [(2,), (0,)] * 500), ((0,), (2,)))
        self.assertEqual(repr(check_stores(EXAMPLE, TURNS, [[1]])), "((1,),)")

    def test_all_stores_of_all_shapes(self):
        for house in SMALL + LARGE:
            self.assertEqual(check_stores(house.lot, house.meaning, house.stores[::-1] * 2), house.stores)

    def test_what_is_no_sequence(self):
        for wrong in (*OTHER_KINDS, 0, "00", {(0, 0)}, {(0, 0): 1}):
            self.refuses(BadStores, {"index": -1}, check_stores, LOT, MEANING, wrong)

    def test_the_first_that_is_no_store(self):
        wrongs = (*OTHER_KINDS, 0, "00", (), (0,), (0, 0, 0), (0, 2), (2, 0), (-1, 0), (0, True), (False, 0),
                  [1, 1.0], (0, "0"), ((0, 0),))
        for wrong in wrongs:
            for at in range(4):
                stores = [(0, 0)] * at + [wrong, None]
                self.refuses(BadStores, {"index": at}, check_stores, LOT, MEANING, stores)
        self.refuses(BadStores, {"index": 1}, check_stores, EXAMPLE, TURNS, ((2,), (3,)))
        self.refuses(BadStores, {"index": 0}, check_stores, LOT, MEANING, (0, 0))


class FaultsTest(GuardCase):
    def test_rule_fault_of_every_rule(self):
        for house in SMALL:
            for rule in all_sets(house.stores)[::5]:
                led_out = [
                    (program, store) for program, lead in enumerate(house.by_program)
                    for store in rule if lead[store] not in rule
                ]
                expected = led_out[0] if led_out else None
                self.assertEqual(rule_fault(house.lot, house.meaning, list(rule)[::-1] + list(rule[:1])), expected)
                self.assertEqual(expected is None, house.keeps(rule))

    def test_the_empty_rule_and_that_of_all_stores_are_kept(self):
        for house in SMALL + LARGE:
            self.assertIsNone(rule_fault(house.lot, house.meaning, ()))
            self.assertIsNone(rule_fault(house.lot, house.meaning, house.stores))
            self.assertIsNone(right_fault(house.lot, house.meaning, house.stores, house.weavings[-1]))

    def test_the_least_program_comes_ahead_of_the_least_store(self):
        lot = lot_of_text("1: any 0 by 0 as 0 | any 0 by 0 as 1")
        meaning = Meaning(3, ((0, (0, 2, 1)), (1, (2, 1, 0))))
        self.assertEqual(rule_fault(lot, meaning, [[1], (0,)]), (0, (1,)))
        self.assertEqual(rule_fault(lot, meaning, ((0,),)), (1, (0,)))
        self.assertEqual(repr(rule_fault(lot, meaning, [[0]])), "(1, (0,))")

    def test_right_fault_of_every_kept_rule(self):
        for house in SMALL:
            for rule in house.kept_rules():
                for weaving in house.weavings[::3]:
                    led_out = [store for store in rule if house.by_weaving[weaving][store] not in rule]
                    found = right_fault(house.lot, house.meaning, rule[::-1], list(weaving))
                    self.assertEqual(found, led_out[0] if led_out else None)

    def test_right_fault_of_rules_that_are_not_kept(self):
        for house in SMALL:
            for rule in all_sets(house.stores)[::11]:
                fault = rule_fault(house.lot, house.meaning, rule)
                if fault is not None:
                    told = {"program": fault[0], "store": fault[1]}
                    self.refuses(NotKept, told, right_fault, house.lot, house.meaning, rule, house.weavings[0])
                    self.refuses(NotKept, told, right_weavings, house.lot, house.meaning, list(rule))

    def test_unwoven_weavings_break_no_kept_rule(self):
        for house in SMALL:
            for rule in house.kept_rules():
                for weaving in unwoven_weavings(house.lot):
                    self.assertIsNone(right_fault(house.lot, house.meaning, rule, weaving))


class RulesTest(GuardCase):
    def test_the_example_of_the_document(self):
        everything = ((0,), (1,), (2,))
        self.assertEqual(list(kept_rules(EXAMPLE, TURNS)), [(), ((0,),), ((1,), (2,)), everything])
        self.assertEqual(least_broken(EXAMPLE, TURNS, (0, 1, 0)), (((0,),), ((1,), (2,))))
        self.assertEqual(brought_along(EXAMPLE, TURNS, ((0, 1, 0),)), all_weavings(EXAMPLE))
        self.assertEqual(brought_along(EXAMPLE, TURNS, ()), ((0, 0, 1), (1, 0, 0)))
        self.assertEqual(least_rule(EXAMPLE, TURNS, ((0,),), ((0, 1, 0),)), everything)
        self.assertEqual(greatest_rule(EXAMPLE, TURNS, ((0,), (1,)), ((0, 1, 0),)), ())
        self.assertEqual(greatest_rule(EXAMPLE, TURNS, ((0,), (1,))), ((0,),))
        self.assertEqual(single_rules(EXAMPLE, TURNS), (((0,),), ((1,), (2,))))

    def test_kept_rules_by_all_sets_of_stores(self):
        for house in SMALL:
            found = kept_rules(house.lot, house.meaning)
            self.assertIsInstance(found, types.GeneratorType)
            self.assertEqual(list(found), house.kept_rules())

    def test_single_rules(self):
        for house in SMALL + LARGE:
            unlike = {house.closed((store,)) for store in house.stores}
            expected = tuple(sorted(unlike, key=lambda rule: (len(rule), rule)))
            self.assertEqual(single_rules(house.lot, house.meaning), expected)
            for store in house.stores:
                self.assertEqual(least_rule(house.lot, house.meaning, [store]),
                                 closed_lot(house.lot, house.meaning, store))

    def test_least_and_greatest_rules_among_all_kept_rules(self):
        rng = random.Random("rules")
        for house in SMALL:
            for many in range(7):
                weavings = [list(weaving) for weaving in rng.choices(house.weavings, k=many)]
                stores = some_stores(rng, house)
                plain = {tuple(store) for store in stores}
                rules = [
                    set(rule) for rule in house.kept_rules()
                    if house.keeps(rule, [tuple(weaving) for weaving in weavings])
                ]
                least = set.intersection(*[rule for rule in rules if plain <= rule])
                greatest = set.union(*[rule for rule in rules if rule <= plain])
                told = (house.lot, house.meaning, stores, weavings)
                self.assertEqual(least_rule(*told), tuple(sorted(least)))
                self.assertEqual(greatest_rule(*told), tuple(sorted(greatest)))

    def test_many_stores(self):
        rng = random.Random("many")
        for house in LARGE:
            self.assertEqual(len(house.stores), 27)
            for many in range(7):
                weavings = rng.choices(house.weavings, k=many)
                few = rng.sample(house.stores, 2)
                most = house.closed(few, weavings) + (few[0],) + tuple(rng.sample(house.stores, 6))
                self.assertEqual(least_rule(house.lot, house.meaning, few, weavings), house.closed(few, weavings))
                self.assertEqual(greatest_rule(house.lot, house.meaning, most, weavings),
                                 house.opened(most, weavings))

    def test_without_weavings(self):
        rng = random.Random("without")
        for house in SMALL + LARGE:
            stores = some_stores(rng, house)
            plain = [tuple(store) for store in stores]
            for weavings in ((), ((),), ([],)):
                told = (house.lot, house.meaning, stores, *weavings)
                self.assertEqual(least_rule(*told), house.closed(plain))
                self.assertEqual(greatest_rule(*told), house.opened(plain))
            self.assertEqual(least_rule(house.lot, house.meaning, ()), ())
            self.assertEqual(greatest_rule(house.lot, house.meaning, []), ())
            self.assertEqual(greatest_rule(house.lot, house.meaning, house.stores), house.stores)

    def test_together_and_in_both(self):
        rng = random.Random("together")
        for house in SMALL:
            rules = house.kept_rules()
            for one, other in zip(rng.choices(rules, k=40), rng.choices(rules, k=40)):
                for rule in (set(one) | set(other), set(one) & set(other)):
                    self.assertIsNone(rule_fault(house.lot, house.meaning, list(rule)))
            singles = single_rules(house.lot, house.meaning)
            for rule in rules:
                within = [single for single in singles if set(single) <= set(rule)]
                self.assertEqual(set(rule), {store for single in within for store in single})

    def test_too_many_stores_to_list(self):
        for cells, modulus, count in ((3, 3, 27), (2, 3, 9), (3, 2, 8), (1, 2, 2)):
            lot = lot_of_text(f"{cells}: any 0 as 0 | kept 0")
            meaning = Meaning(modulus, ((0, (1,)),))
            if count > 9:
                self.refuses(TooMany, {"count": count}, list, kept_rules(lot, meaning))
            else:
                self.assertEqual(len(list(kept_rules(lot, meaning))), len(House(lot, meaning).kept_rules()))
        # all others take 27 stores
        lot = lot_of_text("3: any 0 as 0 | kept 0")
        meaning = Meaning(3, ((0, (1,)),))
        self.assertEqual(least_rule(lot, meaning, [(0, 2, 2)], [(1, 0)]), ((0, 2, 2), (1, 2, 2)))
        self.assertEqual(len(single_rules(lot, meaning)), 27)


class BrokenTest(GuardCase):
    def test_least_broken_among_all_kept_rules(self):
        seen = set()
        for house in SMALL:
            for weaving in house.weavings:
                broken = [rule for rule in house.kept_rules() if weaving not in house.right(rule)]
                found = least_broken(house.lot, house.meaning, list(weaving))
                self.assertEqual(found, least_of(broken))
                self.assertEqual(found == (), weaving in let_under(house.lot, house.meaning))
                seen.add(len(found))
        self.assertLessEqual({0, 1}, seen)
        self.assertGreater(max(seen), 2)

    def test_many_stores(self):
        seen = set()
        for house in LARGE:
            singles = single_rules(house.lot, house.meaning)
            for weaving in house.weavings[::4]:
                broken = [rule for rule in singles if weaving not in house.right(rule)]
                found = least_broken(house.lot, house.meaning, weaving)
                self.assertEqual(found, least_of(broken))
                seen.add(len(found) > 0)
        self.assertEqual(seen, {True, False})


class RightWeavingsTest(GuardCase):
    def test_every_kept_rule(self):
        for house in SMALL:
            for rule in house.kept_rules()[::2]:
                self.assertEqual(right_weavings(house.lot, house.meaning, list(rule) * 2), house.right(rule))

    def test_many_stores(self):
        for house in LARGE:
            for rule in single_rules(house.lot, house.meaning)[::4]:
                self.assertEqual(right_weavings(house.lot, house.meaning, rule), house.right(rule))

    def test_no_store_and_all_stores(self):
        self.assertEqual(right_weavings(EXAMPLE, TURNS, ()), all_weavings(EXAMPLE))
        self.assertEqual(right_weavings(EXAMPLE, TURNS, ((2,), (1,), (0,))), all_weavings(EXAMPLE))
        self.assertEqual(right_weavings(EXAMPLE, TURNS, ((2,), (1,))), ((0, 0, 1), (1, 0, 0)))


class BroughtAlongTest(GuardCase):
    def test_by_all_kept_rules(self):
        rng = random.Random("along")
        for house in SMALL:
            for many in range(7):
                weavings = rng.choices(house.weavings, k=many)
                rules = [rule for rule in house.kept_rules() if set(weavings) <= set(house.right(rule))]
                expected = tuple(
                    weaving for weaving in house.weavings if all(weaving in house.right(rule) for rule in rules)
                )
                found = brought_along(house.lot, house.meaning, [list(weaving) for weaving in weavings])
                self.assertEqual(found, expected)
                self.assertLessEqual(set(weavings), set(found))

    def test_by_least_rules_of_single_stores(self):
        rng = random.Random("single")
        for house in SMALL[:8] + LARGE[:8]:
            weavings = rng.choices(house.weavings, k=rng.randint(0, 3))
            rules = {store: least_rule(house.lot, house.meaning, (store,), weavings) for store in house.stores}
            expected = tuple(
                weaving for weaving in house.weavings
                if all(house.by_weaving[weaving][store] in rules[store] for store in house.stores)
            )
            self.assertEqual(brought_along(house.lot, house.meaning, weavings), expected)

    def test_no_weavings(self):
        for house in SMALL + LARGE:
            self.assertEqual(brought_along(house.lot, house.meaning, ()), let_under(house.lot, house.meaning))

    def test_more_bring_along_no_fewer_and_what_is_brought_along_brings_no_more(self):
        rng = random.Random("more")
        grown = 0
        for house in SMALL:
            weavings = rng.choices(house.weavings, k=3)
            found = [brought_along(house.lot, house.meaning, weavings[:many]) for many in range(4)]
            for less, more in zip(found, found[1:]):
                self.assertLessEqual(set(less), set(more))
                grown += set(less) != set(more)
            for _ in range(3):
                again = rng.choices(found[3], k=3) + weavings
                self.assertEqual(brought_along(house.lot, house.meaning, again), found[3])
        self.assertGreater(grown, 3)


class ErrorsTest(GuardCase):
    short = Meaning(2, MEANING.tables[1:])
    long = Meaning(2, ((7, (0,)),))

    def calls_with_stores(self):
        return (check_stores, rule_fault, right_weavings, least_rule, greatest_rule)

    def test_bad_meanings_come_first(self):
        calls = [(call, (None,)) for call in self.calls_with_stores()]
        calls += [(right_fault, (None, None)), (least_rule, (None, None)), (greatest_rule, (None, None)),
                  (single_rules, ()), (least_broken, (None,)), (brought_along, (None,)),
                  (lambda *told: list(kept_rules(*told)), ())]
        for call, more in calls:
            self.refuses(BadMeaning, {"what": "name"}, call, LOT, self.short, *more)
            self.refuses(BadMeaning, {"what": "table"}, call, LOT, self.long, *more)
        many = lot_of_text("3: any 0 as 0")
        self.refuses(BadMeaning, {"what": "name"}, lambda: list(kept_rules(many, Meaning(3, ()))))

    def test_bad_stores_come_next(self):
        for stores, index in ((None, -1), ("00", -1), ([(0, 0), (0, 2)], 1), ([True], 0), ([(1, 0), [0, False]], 1)):
            for call in self.calls_with_stores():
                self.refuses(BadStores, {"index": index}, call, LOT, MEANING, stores)
            for call in (right_fault, least_rule, greatest_rule):
                self.refuses(BadStores, {"index": index}, call, LOT, MEANING, stores, None)

    def test_bad_weavings_come_next(self):
        for wrong in (*OTHER_KINDS, 0, "01", (0, 2), (0, True)):
            self.refuses(BadWeaving, {"what": "form"}, right_fault, LOT, MEANING, [(0, 0)], wrong)
            self.refuses(BadWeaving, {"what": "form"}, least_broken, LOT, MEANING, wrong)
        for wrong in ((), (0,), (0, 0, 0, 0, 1), [0, 0, 0, 1, 1, 1]):
            self.refuses(BadWeaving, {"what": "length"}, right_fault, LOT, MEANING, [(0, 0)], wrong)
            self.refuses(BadWeaving, {"what": "length"}, least_broken, LOT, MEANING, wrong)

    def test_rules_that_are_not_kept_come_last(self):
        self.assertEqual(rule_fault(LOT, MEANING, [(1, 1), (1, 0)]), (0, (1, 0)))
        told = {"program": 0, "store": (1, 0)}
        self.refuses(NotKept, told, right_fault, LOT, MEANING, [(1, 1), [1, 0]], [0, 0, 0, 1, 1])
        self.refuses(NotKept, told, right_weavings, LOT, MEANING, [(1, 1), [1, 0]])

    def test_bad_wishes_come_behind_bad_stores(self):
        good = (0, 0, 0, 1, 1)
        for wrong in (*OTHER_KINDS, 0, "01", [good] * 7, [None] * 7):
            self.refuses(BadWish, {"index": -1}, brought_along, LOT, MEANING, wrong)
            self.refuses(BadWish, {"index": -1}, least_rule, LOT, MEANING, (), wrong)
            self.refuses(BadWish, {"index": -1}, greatest_rule, LOT, MEANING, (), wrong)
        for wrong in (*OTHER_KINDS, 0, (), (0, 0, 0, 1), (0, 0, 0, True, 1), (0, 0, 0, 1, 2)):
            for at in range(6):
                weavings = [list(good)] * at + [wrong] + [None] * (5 - at)
                self.refuses(BadWish, {"index": at}, brought_along, LOT, MEANING, weavings)
                self.refuses(BadWish, {"index": at}, least_rule, LOT, MEANING, [(0, 0)], weavings)
                self.refuses(BadWish, {"index": at}, greatest_rule, LOT, MEANING, [(0, 0)], weavings)

    def test_six_weavings_are_not_too_many(self):
        six = [(0, 0, 0, 1, 1)] * 6
        self.assertEqual(brought_along(LOT, MEANING, six), let_under(LOT, MEANING))
        self.assertEqual(least_rule(LOT, MEANING, [(0, 0)], six), least_rule(LOT, MEANING, [(0, 0)]))

    def test_nothing_that_is_passed_in_is_changed(self):
        stores, weaving, weavings = [[1], (0,), [1]], [0, 1, 0], [[0, 1, 0], [1, 0, 0]]
        for call in (check_stores, rule_fault):
            call(EXAMPLE, TURNS, stores)
        least_rule(EXAMPLE, TURNS, stores, weavings)
        greatest_rule(EXAMPLE, TURNS, stores, weavings)
        everything = [[2], [1], [0]]
        right_fault(EXAMPLE, TURNS, everything, weaving)
        right_weavings(EXAMPLE, TURNS, everything)
        least_broken(EXAMPLE, TURNS, weaving)
        brought_along(EXAMPLE, TURNS, weavings)
        self.assertEqual((stores, weaving, weavings), ([[1], (0,), [1]], [0, 1, 0], [[0, 1, 0], [1, 0, 0]]))
        self.assertEqual(everything, [[2], [1], [0]])
        self.assertEqual(TURNS, Meaning(3, ((0, (1, 2, 0)), (1, (2, 0, 1)), (2, (0, 2, 1)))))

    def test_tuples_throughout(self):
        for found in (least_rule(EXAMPLE, TURNS, [[1]]), greatest_rule(EXAMPLE, TURNS, [[2], [1]])):
            self.assertEqual(repr(found), "((1,), (2,))")
        self.assertEqual(repr(brought_along(EXAMPLE, TURNS, [[0, 0, 1]])), "((0, 0, 1), (1, 0, 0))")


if __name__ == "__main__":
    unittest.main()
