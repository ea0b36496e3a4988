"""[7.6] to [7.9]: how much guards hold."""

import fractions
import random
import unittest

from helper import (
    OTHER_KINDS, GuardCase, all_facts, blind_lot, made_up_guard_weavings, made_up_lot, made_up_lots, made_up_meaning,
    taken_facts, with_unlike_names,
)
from knownguards.closedlots import let_under
from knownguards.errors import BadWeaving
from knownguards.facts import cells_floor, with_facts
from knownguards.guards import Guard, lets_no_more
from knownguards.houselaws import brought_along, least_rule, right_weavings
from knownguards.letting import let_weavings
from knownguards.live import run_order
from knownguards.lots import Lot
from knownguards.lottexts import lot_of_text
from knownguards.meanings import all_stores
from knownguards.shares import first_hold, held_orders, mean_holds, share_of
from knownguards.weavings import all_weavings, unwoven_weavings

EXAMPLE = lot_of_text("2: any 0 by 0 as 0; any 1 by 0 1 as 1 | any 0 by 0 as 2; any 1 by 0 1 as 3")
LOTS = [EXAMPLE, blind_lot(4), blind_lot(1, 1), blind_lot(2, 2, 2), blind_lot(2, 3, 2), *made_up_lots(25, "shares")]


def guards_of(lot, rng):
    weavings, unwoven = all_weavings(lot), unwoven_weavings(lot)
    made_up = Guard(lot, made_up_guard_weavings(rng, weavings, unwoven))
    return [Guard.unwoven(lot), Guard.greatest(lot), Guard.whole(lot), made_up]


GUARDS = [guard for lot in LOTS for guard in guards_of(lot, random.Random("guards"))]


def as_share(number):
    return number.numerator, number.denominator


def hold_of(guard, order):
    """The first hold, where nothing is held later than all."""
    place = first_hold(guard, order)
    return len(order) if place is None else place


class HoldsTest(GuardCase):
    def test_first_hold_by_the_events(self):
        for guard in GUARDS:
            for order in all_weavings(guard.lot):
                words = [word for word, _ in run_order(guard, order).events]
                expected = words.index("held") if "held" in words else None
                self.assertEqual(first_hold(guard, list(order)), expected)
                self.assertEqual(expected is None, order in guard)

    def test_held_orders_by_the_events(self):
        for guard in GUARDS:
            expected = tuple(order for order in all_weavings(guard.lot) if run_order(guard, order).holds)
            self.assertEqual(held_orders(guard), expected)
            self.assertEqual(sorted(held_orders(guard) + guard.weavings), list(all_weavings(guard.lot)))

    def test_shares_and_means_by_the_events(self):
        for guard in GUARDS:
            orders = all_weavings(guard.lot)
            runs = [run_order(guard, order) for order in orders]
            unheld = fractions.Fraction(sum(run.holds == 0 for run in runs), len(orders))
            mean = fractions.Fraction(sum(run.holds for run in runs), len(orders))
            self.assertEqual(share_of(guard), as_share(unheld))
            self.assertEqual(mean_holds(guard), as_share(mean))

    def test_one_and_zero(self):
        for lot in LOTS:
            self.assertEqual(share_of(Guard.whole(lot)), (1, 1))
            self.assertEqual(mean_holds(Guard.whole(lot)), (0, 1))
            self.assertEqual(held_orders(Guard.whole(lot)), ())

    def test_lowest_terms(self):
        self.assertEqual(share_of(Guard.unwoven(blind_lot(2, 2))), (1, 3))
        self.assertEqual(share_of(Guard.unwoven(blind_lot(2, 3, 2))), (1, 35))
        self.assertEqual(repr(share_of(Guard.unwoven(blind_lot(4)))), "(1, 1)")

    def test_the_example_of_the_document(self):
        guard = Guard.greatest(EXAMPLE)
        self.assertEqual(guard.weavings, ((0, 0, 1, 1), (0, 1, 0, 1), (1, 0, 1, 0), (1, 1, 0, 0)))
        self.assertEqual((share_of(guard), mean_holds(guard)), ((2, 3), (1, 3)))
        self.assertEqual(held_orders(guard), ((0, 1, 1, 0), (1, 0, 0, 1)))
        self.assertEqual(first_hold(guard, (0, 1, 1, 0)), 2)
        self.assertIsNone(first_hold(guard, (0, 1, 0, 1)))
        self.assertEqual(first_hold(Guard.unwoven(EXAMPLE), [0, 1, 1, 0]), 1)

    def test_bad_weavings(self):
        guard, order = Guard.unwoven(EXAMPLE), [0, 1, 0, 1]
        for wrong in (*OTHER_KINDS, 0, "0011", (0, 0, 1, 2), (0, 0, 1, True)):
            self.refuses(BadWeaving, {"what": "form"}, first_hold, guard, wrong)
        for wrong in ((), (0, 0, 1), [0, 0, 1, 1, 1], (0, 0, 0, 1)):
            self.refuses(BadWeaving, {"what": "length"}, first_hold, guard, wrong)
        first_hold(guard, order)
        self.assertEqual(order, [0, 1, 0, 1])


class MoreOrLessTest(GuardCase):
    def check_no_more(self, guard, other):
        """The guard lets no more, so it holds in each order in which the other one does, and no later."""
        self.assertIsNone(lets_no_more(guard, other))
        self.assertLessEqual(set(held_orders(other)), set(held_orders(guard)))
        for order in all_weavings(guard.lot):
            self.assertLessEqual(hold_of(guard, order), hold_of(other, order))
        self.assertLessEqual(fractions.Fraction(*share_of(guard)), fractions.Fraction(*share_of(other)))

    def test_guards_that_let_no_more(self):
        rng = random.Random("less")
        for lot in LOTS:
            greatest = Guard.greatest(lot)
            less = Guard(lot, unwoven_weavings(lot) + greatest.weavings[::2])
            for guard, other in ((Guard.unwoven(lot), less), (less, greatest), (greatest, Guard.whole(lot)),
                                 (Guard.unwoven(lot), guards_of(lot, rng)[3])):
                self.check_no_more(guard, other)

    def test_right_guards_may_have_a_lesser_mean_than_the_greatest(self):
        found = False
        for lot in made_up_lots(60, "lesser mean"):
            if len(lot) > 1 and lot.total < 7:
                greatest = Guard.greatest(lot)
                for left_out in greatest:
                    if left_out not in unwoven_weavings(lot):
                        right = Guard(lot, [one for one in greatest if one != left_out])
                        found = found or (
                            fractions.Fraction(*mean_holds(right)) < fractions.Fraction(*mean_holds(greatest))
                        )
        self.assertTrue(found)

    def test_more_knowledge_never_lets_less(self):
        rng = random.Random("knowledge")
        grown = set()
        for lot in made_up_lots(60, "knowledge"):
            if len(lot) == 1 or lot.total > 6 or lot.cells > 2:
                continue
            meaning = made_up_meaning(rng, lot, 2)
            rule = least_rule(lot, meaning, rng.sample(all_stores(lot, 2), 1))
            right = right_weavings(lot, meaning, rule)
            rows = (
                unwoven_weavings(lot), let_weavings(cells_floor(lot)), let_weavings(lot), let_under(lot, meaning),
                brought_along(lot, meaning, rng.choices(right, k=3)), right,
            )
            guards = [Guard(lot, row) for row in rows]
            for at, (guard, other) in enumerate(zip(guards, guards[1:])):
                self.check_no_more(guard, other)
                if len(guard) < len(other):
                    grown.add(at)
        self.assertLessEqual({0, 1, 2}, grown)

    def test_facts_over_a_lot_without_shared_names(self):
        rng = random.Random("unlike")
        grown = 0
        for shared in made_up_lots(40, "unlike"):
            lot = with_unlike_names(shared)
            facts = taken_facts(rng, lot, all_facts(lot), 4)
            guard, other = Guard.greatest(lot), Guard(lot, let_weavings(with_facts(lot, facts)))
            self.check_no_more(guard, other)
            grown += len(guard) < len(other)
        self.assertGreater(grown, 3)


class PartedTest(GuardCase):
    """[7.8]: programs that have nothing to do with one another do not hold one another."""

    def parted(self, rng):
        """A lot with the programs of its two groups; no cell is shared, or the other group only looks."""
        one, other = made_up_lot(rng), made_up_lot(rng).renamed()
        looks = rng.random() < 0.4
        cells = one.cells if looks else one.cells + other.cells
        if len(one) == 1 or len(one) + len(other) > 3 or one.total + other.total > 7 or cells > 3:
            return self.parted(rng)
        if looks:
            others = [[(min(step[0], cells - 1), "kept", (), -1) for step in steps] for steps in other]
        else:
            others = [
                [(cell + one.cells, kind, goes_by, name if kind == "kept" else name + 10)
                 for cell, kind, goes_by, name in steps]
                for steps in other
            ]
        number = rng.randrange(3)
        programs = [*one.renamed()]
        programs.insert(number, others[0])
        groups = ([program for program in range(3) if program != number], [number])
        return Lot(cells, programs), groups

    def test_groups_run_as_if_they_were_alone(self):
        rng = random.Random("parted")
        several = 0
        for _ in range(60):
            lot, groups = self.parted(rng)
            lots = [Lot(lot.cells, [lot.programs[program] for program in group]) for group in groups]
            whole, *guards = [Guard.greatest(one) for one in (lot, *lots)]
            shares = [fractions.Fraction(*share_of(guard)) for guard in guards]
            means = [fractions.Fraction(*mean_holds(guard)) for guard in guards]
            self.assertEqual(share_of(whole), as_share(shares[0] * shares[1]))
            self.assertEqual(mean_holds(whole), as_share(means[0] + means[1]))
            several += share_of(whole) != (1, 1)
            for order in all_weavings(lot):
                run = run_order(whole, order)
                holds = 0
                for group, guard in zip(groups, guards):
                    left = [group.index(program) for program in order if program in group]
                    granted = tuple(group.index(program) for program in run.weaving if program in group)
                    alone = run_order(guard, left)
                    self.assertEqual(granted, alone.weaving)
                    holds += alone.holds
                self.assertEqual(run.holds, holds)
        self.assertGreater(several, 10)

    def test_a_program_that_only_looks_is_never_held(self):
        for lot in LOTS:
            if lot.total < 6 and len(lot) < 3:
                looking = lot.with_program(((0, "kept", (), -1), (lot.cells - 1, "kept", (), -1)))
                guard = Guard.greatest(looking)
                for order in all_weavings(looking):
                    self.assertNotIn(("held", len(lot)), run_order(guard, order).events)


if __name__ == "__main__":
    unittest.main()
