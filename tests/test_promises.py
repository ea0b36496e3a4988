"""The main promises, over the whole program: each is asked of all its modules together."""

import fractions
import random
import unittest

from helper import (
    GuardCase, all_facts, all_sets, blind_lot, greatest_of, least_of, made_up_lots, made_up_meaning, made_up_pool,
)
from knownguards.bars import bar_fault, let_fault
from knownguards.bits import bit_bar, bit_fault, house_meaning
from knownguards.closedlots import Breaks, let_under, lets_under
from knownguards.elder import elder_final, elder_letting, late_look
from knownguards.errors import BadFact
from knownguards.facts import cells_floor, own_facts, with_facts
from knownguards.guards import Guard, judged_guard
from knownguards.houselaws import brought_along, kept_rules, right_fault, rule_fault
from knownguards.leastfacts import barring_facts, least_facts
from knownguards.lengths import lengths_bar
from knownguards.letting import Let, knows_less, let_weavings, letting
from knownguards.live import run_order
from knownguards.lottexts import lot_of_text
from knownguards.meanings import all_stores, run_program, run_weaving
from knownguards.orders import Order, order_for
from knownguards.outcomes import outcome_of_wholes
from knownguards.shares import share_of
from knownguards.sources import counted_looks, find_sources
from knownguards.weavings import all_weavings, is_unwoven, placed_steps, row_weaving, unwoven_weavings

LOTS = [
    lot_of_text("2: kept 0; any 0 by 0 as 0 | any 0 as 1; any 1 as 2"),
    lot_of_text("2: any 0 by 0 as 0; any 1 by 0 1 as 1 | any 0 by 0 as 2; any 1 by 0 1 as 3"),
    lot_of_text("1: adds 0 as 0; kept 0 | adds 0 as 0; any 0 by 1 as 1 | any 0 by 0 as 2"),
    blind_lot(1, 2, 1),
    *[lot for lot in made_up_lots(70, "promises") if len(lot) > 1 and lot.total < 7],
]


def taken(lot, facts):
    """The lot of which these facts are known, None if they do not go together."""
    try:
        return with_facts(lot, facts)
    except BadFact:
        return None


def goes_on(less, more):
    """Each step whose name another step bears is of the same kind and goes by the same pockets in the other lot."""
    names = [step[3] for steps in less for step in steps]
    return all(
        step[1:3] == other[1:3]
        for steps, others in zip(less, more)
        for step, other in zip(steps, others)
        if step[3] >= 0 and names.count(step[3]) > 1
    )


class FactsPromiseTest(GuardCase):
    def test_more_facts_let_no_less(self):
        rng = random.Random("facts")
        tried = grown = 0
        for lot in LOTS * 6:
            base = rng.choice((lot, cells_floor(lot)))
            own = list(own_facts(lot)) if base != lot else rng.sample(all_facts(lot), min(3, len(all_facts(lot))))
            facts = [fact for fact in own if rng.random() < 0.6]
            less, more = taken(base, facts), taken(base, own)
            if less is not None and more is not None and goes_on(less, more):
                tried += 1
                self.assertEqual(knows_less(base, own, facts), ())
                grown += knows_less(base, facts, own) != ()
        self.assertGreater(tried, 50)
        self.assertGreater(grown, 10)

    def test_what_is_added_is_same_alone(self):
        rng = random.Random("same")
        tried = 0
        for lot in LOTS * 4:
            same = [fact for fact in all_facts(lot) if fact[0] == "same" and taken(lot, [fact])]
            facts = rng.sample(same, min(2, len(same)))
            if facts and taken(lot, facts):
                tried += 1
                self.assertEqual(knows_less(lot, facts, ()), ())
        self.assertGreater(tried, 20)

    def test_let_and_barred_by_what_is_told(self):
        for lot in LOTS:
            for weaving in all_weavings(lot)[::2]:
                found = letting(lot, weaving)
                if isinstance(found, Let):
                    self.assertIsNone(let_fault(lot, weaving, found))
                else:
                    self.assertIsNone(bar_fault(lot, weaving, found))

    def test_least_and_greatest_sets_tell_each_other(self):
        rng = random.Random("families")
        for lot in LOTS[:20]:
            pool = sorted(made_up_pool(rng, lot, 5))
            for weaving in rng.sample(all_weavings(lot), min(4, len(all_weavings(lot)))):
                least, barring = least_facts(lot, pool, [weaving]), barring_facts(lot, pool, [weaving])
                sets = all_sets(pool)
                hitting = [one for one in sets if all(set(one) - set(barred) for barred in barring)]
                holding_none = [one for one in sets if not any(set(some) <= set(one) for some in least)]
                self.assertEqual(least, least_of(hitting))
                self.assertEqual(barring, greatest_of(holding_none))


class FloorsPromiseTest(GuardCase):
    def test_lengths_alone(self):
        for lot in LOTS:
            for weaving in all_weavings(lot):
                house = lengths_bar(lot, weaving)
                self.assertEqual(house is None, is_unwoven(lot, weaving))
                if house is not None:
                    meaning = house_meaning(house)
                    self.assertEqual(house.lot.sizes, lot.sizes)
                    self.assertIsNone(rule_fault(house.lot, meaning, house.stores))
                    self.assertEqual(right_fault(house.lot, meaning, house.stores, weaving), house.start)

    def test_the_cells_alone(self):
        for lot in LOTS:
            floor = cells_floor(lot)
            let = let_weavings(floor)
            for weaving in all_weavings(lot):
                self.assertEqual(isinstance(order_for(floor, weaving), Order), weaving in let)
                bar = bit_bar(lot, weaving)
                self.assertEqual(bar is None, weaving in let)
                if bar is not None:
                    self.assertIsNone(bit_fault(lot, weaving, bar))
                    self.assertIsNone(rule_fault(floor, bar.meaning, bar.stores))
                    self.assertIsNotNone(right_fault(floor, bar.meaning, bar.stores, weaving))


class MeaningsPromiseTest(GuardCase):
    def test_meanings_told(self):
        rng = random.Random("meanings")
        for lot in LOTS:
            modulus = rng.choice((2, 3)) if lot.cells < 3 else 2
            meaning = made_up_meaning(rng, lot, modulus)
            rules = list(kept_rules(lot, meaning))
            let = let_under(lot, meaning)
            self.assertLessEqual(set(let_weavings(lot)), set(let))
            known = rng.choices(all_weavings(lot), k=2)
            along = brought_along(lot, meaning, known)
            for weaving in all_weavings(lot)[::4]:
                ends = {store: run_weaving(lot, meaning, weaving, store) for store in all_stores(lot, modulus)}
                broken = [rule for rule in rules if any(ends[store] not in rule for store in rule)]
                self.assertEqual(weaving in let, not broken)
                self.assertEqual(isinstance(lets_under(lot, meaning, weaving), Breaks), bool(broken))
                knowing = [
                    rule for rule in broken
                    if all(run_weaving(lot, meaning, one, store) in rule for one in known for store in rule)
                ]
                self.assertEqual(weaving in along, not knowing)
            for rule in rules[:20]:
                for program in range(len(lot)):
                    self.assertTrue(all(run_program(lot, meaning, program, store) in rule for store in rule))


class GuardsPromiseTest(GuardCase):
    def test_all_come_to_their_end_and_no_right_guard_has_a_greater_share(self):
        rng = random.Random("guards")
        for lot in LOTS:
            greatest = Guard.greatest(lot)
            self.assertIsNone(judged_guard(greatest))
            any_weavings = [one for one in all_weavings(lot) if rng.random() < 0.5]
            for guard in (greatest, Guard.unwoven(lot), Guard(lot, [*unwoven_weavings(lot), *any_weavings])):
                for order in all_weavings(lot):
                    run = run_order(guard, order)
                    self.assertIn(run.weaving, guard)
                    self.assertEqual(run.holds == 0, order in guard)
                if judged_guard(guard) is None:
                    share = fractions.Fraction(*share_of(guard))
                    self.assertLessEqual(share, fractions.Fraction(*share_of(greatest)))


class ElderPromiseTest(GuardCase):
    def test_let_by_an_order_exactly_if_every_look_that_counts_stands_behind_its_sources(self):
        seen = set()
        for lot in LOTS:
            for weaving in all_weavings(lot)[::3]:
                found = elder_letting(lot, weaving)
                order = found.programs if isinstance(found, Order) else tuple(range(len(lot)))
                unwoven, placed = row_weaving(lot, order), placed_steps(lot, weaving)
                behind = all(
                    placed.index(source) < placed.index(look)
                    for look in counted_looks(lot)
                    for source in find_sources(lot, unwoven, *look)
                )
                self.assertEqual(behind, isinstance(found, Order))
                self.assertEqual(behind, late_look(lot, weaving, order) is None)
                if behind:
                    self.assertEqual(elder_final(lot, weaving, order), outcome_of_wholes(lot, order))
                seen.add(behind)
        self.assertEqual(seen, {True, False})


if __name__ == "__main__":
    unittest.main()
