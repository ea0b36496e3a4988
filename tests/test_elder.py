"""[8.3] to [8.7] and the example of part 8: stores that keep elder worths."""

import itertools
import types
import unittest

from helper import OTHER_KINDS, GuardCase, blind_lot, made_up_lots, places_of
from knownguards.elder import (
    EveryLate, FewestElder, elder_final, elder_letting, elder_looks, elder_pockets, elder_walk, elder_weavings,
    fewest_elder, late_look, weavings_of_order,
)
from knownguards.errors import BadOrder, BadWeaving, LateLook
from knownguards.facts import cells_floor
from knownguards.letting import is_let, let_weavings
from knownguards.lottexts import lot_of_text
from knownguards.orders import Order, all_orders, swap_walk
from knownguards.outcomes import outcome_of, outcome_of_wholes, pockets_of
from knownguards.sources import last_sources
from knownguards.weavings import all_weavings, unwoven_weavings, weaving_without

EXAMPLE = lot_of_text("2: kept 0; any 0 by 0 as 0 | any 0 as 1; any 1 as 2")
ADDS = lot_of_text("2: adds 0 as 0; kept 0; adds 0 by 1 as 1 | any 0 as 2; adds 0 as 0 | kept 1; any 0 by 0 1 as 3")
SHARED = lot_of_text("2: kept 0; any 1 by 0 as 5; any 0 by 2 as 5 | any 0 by 0 as 5; adds 1 by 0 as 6 | "
                     "adds 1 as 7; kept 1")
LOTS = [EXAMPLE, blind_lot(3), blind_lot(1, 2), lot_of_text("1: kept 0; kept 0 | kept 0 | any 0 by 0 as 0"),
        *[lot for lot in made_up_lots(160, "elder") if lot.total < 7]]
SEVEN = [ADDS, SHARED]


def rows_of(lot):
    return list(itertools.permutations(range(len(lot))))


def counted(lot):
    return [(program, place) for program, place in places_of(lot)
            if any(place in step[2] for step in lot.programs[program])]


def plain_sources(lot, placed, look):
    """The sources of a look, by the words of [8.2]."""
    cell = lot.programs[look[0]][look[1]][0]
    ahead = [(program, place) for program, place in placed[:placed.index(look)]
             if lot.programs[program][place][0] == cell and lot.programs[program][place][1] != "kept"]
    anys = [at for at, (program, place) in enumerate(ahead) if lot.programs[program][place][1] == "any"]
    return set(ahead[anys[-1]:] if anys else ahead)


def steps_of(lot, weaving):
    done, placed = [0] * len(lot), []
    for program in weaving:
        placed.append((program, done[program]))
        done[program] += 1
    return placed


def unwoven_of(lot, order):
    return tuple(program for program in order for _ in range(lot.sizes[program]))


def plain_late(lot, weaving, order):
    """The first late look, by the words of [8.3]."""
    placed, unwoven = steps_of(lot, weaving), steps_of(lot, unwoven_of(lot, order))
    for at, look in enumerate(placed):
        if look in counted(lot) and not plain_sources(lot, unwoven, look) <= set(placed[:at]):
            return look
    return None


def cases(lots, orders=rows_of, some=1):
    """Each weaving of the lots with each row of all programs."""
    return [
        (lot, weaving, order) for lot in lots for weaving in all_weavings(lot)[::some] for order in orders(lot)
    ]


def let_cases(lots, some=1):
    """The cases in which the order lets the weaving."""
    return [case for case in cases(lots, some=some) if plain_late(*case) is None]


class LateLookTest(GuardCase):
    def test_every_weaving_and_every_order(self):
        late = 0
        for lot, weaving, order in cases(LOTS):
            expected = plain_late(lot, weaving, order)
            self.assertEqual(late_look(lot, list(weaving), list(order)), expected)
            late += expected is not None
        self.assertGreater(late, 500)

    def test_seven_steps(self):
        for lot, weaving, order in cases(SEVEN, some=3):
            self.assertEqual(late_look(lot, weaving, order), plain_late(lot, weaving, order))

    def test_the_one_that_stands_first_in_the_weaving(self):
        lot = lot_of_text("1: any 0 by 0 as 0; any 0 by 1 as 1 | any 0 by 0 as 2 | any 0 as 3")
        self.assertEqual(late_look(lot, (1, 0, 0, 2), (2, 0, 1)), (1, 0))
        self.assertEqual(late_look(lot, (0, 1, 0, 2), (2, 0, 1)), (0, 0))
        self.assertEqual(late_look(lot, (2, 0, 1, 0), (2, 0, 1)), (1, 0))
        self.assertIsNone(late_look(lot, (2, 0, 0, 1), (2, 0, 1)))


class ElderLettingTest(GuardCase):
    def test_the_least_order_or_a_late_look_by_each(self):
        kinds = set()
        for lot in LOTS + SEVEN:
            for weaving in all_weavings(lot)[::1 if lot.total < 7 else 5]:
                late = [(order, plain_late(lot, weaving, order)) for order in rows_of(lot)]
                lets = [order for order, look in late if look is None]
                found = elder_letting(lot, list(weaving))
                expected = Order(lets[0]) if lets else EveryLate(tuple(late))
                self.assertIs(type(found), type(expected))
                self.assertEqual(found, expected)
                kinds.add(type(found))
        self.assertEqual(kinds, {Order, EveryLate})

    def test_every_late(self):
        lot = lot_of_text("1: any 0 by 0 as 0; any 0 by 1 as 1 | any 0 by 0 as 2; kept 0")
        found = elder_letting(lot, (0, 1, 0, 1))
        self.assertEqual(found, EveryLate((((0, 1), (1, 0)), ((1, 0), (0, 0)))))
        self.assertEqual(repr(found.looks), "(((0, 1), (1, 0)), ((1, 0), (0, 0)))")

    def test_weavings(self):
        for lot in LOTS + SEVEN:
            expected = []
            for order in rows_of(lot):
                found = weavings_of_order(lot, list(order))
                self.assertIsInstance(found, types.GeneratorType)
                lets = [weaving for weaving in all_weavings(lot) if late_look(lot, weaving, order) is None]
                self.assertEqual(list(found), lets)
                self.assertIn(unwoven_of(lot, order), lets)
                expected += lets
            self.assertEqual(elder_weavings(lot), tuple(sorted(set(expected))))

    def test_unwoven_weavings_are_let_by_their_own_order(self):
        for lot in LOTS + SEVEN:
            for order in rows_of(lot):
                self.assertIsNone(late_look(lot, unwoven_of(lot, order), order))
            self.assertLessEqual(set(unwoven_weavings(lot)), set(elder_weavings(lot)))


class HandedOutTest(GuardCase):
    def test_all_ends_as_if_the_programs_were_done_whole(self):
        handed = 0
        for lot, weaving, order in let_cases(LOTS) + let_cases(SEVEN, some=4):
            whole = pockets_of(lot, unwoven_of(lot, order))
            expected = tuple(
                tuple(pocket if (program, place) in counted(lot) else None for place, pocket in enumerate(pockets))
                for program, pockets in enumerate(whole)
            )
            self.assertEqual(elder_pockets(lot, list(weaving), list(order)), expected)
            self.assertEqual(elder_final(lot, list(weaving), list(order)), outcome_of_wholes(lot, order))
            handed += pockets_of(lot, weaving) != whole
        self.assertGreater(handed, 200)

    def test_elder_worths_with_turns(self):
        lot = lot_of_text("1: adds 0 as 0; adds 0 as 1 | kept 0; any 0 by 0 as 2")
        begun = ((0, 0), ())
        self.assertEqual(elder_pockets(lot, (0, 1, 0, 1), (1, 0)), ((None, None), (begun, None)))
        put = ((1, 2, (begun,)), ((0, ()), (1, ())))
        self.assertEqual(elder_final(lot, (0, 1, 0, 1), (1, 0)), (put,))
        turned = ((0, 0), ((0, ()), (1, ())))
        self.assertEqual(elder_pockets(lot, (0, 0, 1, 1), (0, 1)), ((None, None), (turned, None)))
        self.assertEqual(elder_final(lot, [0, 0, 1, 1], [0, 1]), (((1, 2, (turned,)), ()),))

    def test_late_looks_are_told(self):
        calls = (elder_pockets, elder_final, elder_looks, elder_walk)
        for lot, weaving, order in cases(LOTS, some=7):
            late = plain_late(lot, weaving, order)
            if late is not None:
                for call in calls:
                    self.refuses(LateLook, {"program": late[0], "place": late[1]}, call, lot, weaving, list(order))


class ElderLooksTest(GuardCase):
    def test_every_let_weaving(self):
        seen = 0
        for lot, weaving, order in let_cases(LOTS) + let_cases(SEVEN, some=4):
            placed, unwoven = steps_of(lot, weaving), steps_of(lot, unwoven_of(lot, order))
            expected = tuple(
                look for look in counted(lot)
                if plain_sources(lot, placed, look) != plain_sources(lot, unwoven, look)
            )
            self.assertEqual(elder_looks(lot, list(weaving), list(order)), expected)
            seen += len(expected)
        self.assertGreater(seen, 200)

    def test_sources_alone_are_compared(self):
        lot = lot_of_text("1: any 0 as 0 | any 0 as 0 | kept 0; any 0 by 0 as 1")
        self.assertEqual(pockets_of(lot, (0, 1, 2, 2))[2], pockets_of(lot, (1, 0, 2, 2))[2])
        self.assertEqual(elder_looks(lot, (0, 1, 2, 2), (1, 0, 2)), ((2, 0),))
        self.assertEqual(fewest_elder(lot, (0, 1, 2, 2)), FewestElder((0, 1, 2), ()))

    def test_fewest(self):
        several = 0
        for lot in LOTS + SEVEN:
            for weaving in all_weavings(lot)[::1 if lot.total < 6 else 7]:
                lets = [order for order in rows_of(lot) if plain_late(lot, weaving, order) is None]
                if not lets:
                    self.assertEqual(fewest_elder(lot, list(weaving)), elder_letting(lot, weaving))
                    continue
                choices = [(len(elder_looks(lot, weaving, order)), order) for order in lets]
                best = min(choices)[1]
                found = fewest_elder(lot, list(weaving))
                self.assertEqual(found, FewestElder(best, elder_looks(lot, weaving, best)))
                several += best != lets[0]
        self.assertGreater(several, 10)

    def test_the_example_of_the_document(self):
        weaving = (1, 0, 0, 1)
        for order in ((0, 1), (1, 0)):
            self.assertIsNone(late_look(EXAMPLE, weaving, order))
        self.assertEqual(elder_looks(EXAMPLE, weaving, (0, 1)), ((0, 0),))
        self.assertEqual(elder_looks(EXAMPLE, weaving, (1, 0)), ())
        self.assertEqual(elder_letting(EXAMPLE, weaving), Order((0, 1)))
        self.assertEqual(fewest_elder(EXAMPLE, weaving), FewestElder((1, 0), ()))


class WalkTest(GuardCase):
    def test_every_let_weaving(self):
        for lot, weaving, order in let_cases(LOTS, some=2) + let_cases(SEVEN, some=15):
            walk = elder_walk(lot, list(weaving), list(order))
            self.assertEqual((walk[0], walk[-1]), (weaving, unwoven_of(lot, order)))
            turned = [
                (one, other) for one, other in itertools.combinations(weaving, 2)
                if order.index(other) < order.index(one)
            ]
            self.assertEqual(len(walk), len(turned) + 1)
            for one, other in zip(walk, walk[1:]):
                pairs = [at for at in range(len(one) - 1) if order.index(one[at + 1]) < order.index(one[at])]
                at = pairs[0]
                self.assertEqual(other, one[:at] + (one[at + 1], one[at]) + one[at + 2:])
            for one in walk:
                self.assertIsNone(plain_late(lot, one, order))

    def test_an_unwoven_weaving_by_its_own_order(self):
        self.assertEqual(elder_walk(EXAMPLE, [1, 1, 0, 0], [1, 0]), ((1, 1, 0, 0),))
        self.assertEqual(elder_walk(EXAMPLE, [1, 0, 1, 0], [1, 0]), ((1, 0, 1, 0), (1, 1, 0, 0)))


class WhatHoldsTest(GuardCase):
    """[8.7]."""

    def test_orders_that_turn_no_meeting(self):
        for lot in LOTS + SEVEN:
            for weaving in all_weavings(lot)[::1 if lot.total < 6 else 6]:
                for order in all_orders(lot, weaving):
                    self.assertEqual(elder_looks(lot, weaving, order), ())
                    self.assertEqual(elder_walk(lot, weaving, order), swap_walk(lot, weaving, order))

    def test_what_the_floor_lets_is_let_here(self):
        for lot in LOTS:
            self.assertLessEqual(set(let_weavings(cells_floor(lot))), set(elder_weavings(lot)))

    def test_no_elder_look_and_the_same_last_sources(self):
        beyond = 0
        for lot, weaving, order in let_cases(LOTS):
            if elder_looks(lot, weaving, order) == ():
                if last_sources(lot, weaving) == last_sources(lot, unwoven_of(lot, order)):
                    self.assertEqual(outcome_of(lot, weaving), outcome_of_wholes(lot, order))
                    self.assertTrue(is_let(lot, weaving))
                    beyond += order not in all_orders(lot, weaving)
        self.assertGreater(beyond, 0)

    def test_a_program_that_only_looks_never_bars(self):
        for lot in LOTS:
            if lot.total < 6 and len(lot) < 3:
                looking = lot.with_program(((0, "kept", (), -1), (lot.cells - 1, "kept", (), -1)))
                for weaving in all_weavings(looking):
                    left = weaving_without(looking, weaving, len(lot))
                    self.assertEqual(type(elder_letting(looking, weaving)), type(elder_letting(lot, left)))

    def test_a_program_of_which_no_look_counts_never_bars(self):
        more = 0
        for lot in LOTS:
            if lot.total < 6 and len(lot) < 3:
                blind = lot.with_program(((0, "any", (), 98 if 98 not in names_of(lot) else 97),))
                self.assertNotIn((len(lot), 0), counted(blind))
                for weaving in all_weavings(blind):
                    left = weaving_without(blind, weaving, len(lot))
                    if isinstance(elder_letting(lot, left), Order):
                        self.assertIsInstance(elder_letting(blind, weaving), Order)
                    else:
                        more += isinstance(elder_letting(blind, weaving), Order)
        # its puts may hide an elder one, so the converse does not hold
        self.assertGreater(more, 0)

    def test_programs_of_which_no_look_counts_are_let_by_every_order(self):
        for lot in (blind_lot(2, 2, 1), lot_of_text("2: kept 0; adds 0 as 0 | any 1 as 1; kept 1")):
            for order in rows_of(lot):
                self.assertEqual(tuple(weavings_of_order(lot, order)), all_weavings(lot))

    def test_neither_letting_is_within_the_other(self):
        found = set()
        for lot in LOTS:
            elder, let = set(elder_weavings(lot)), set(let_weavings(lot))
            found |= {"elder"} if elder - let else set()
            found |= {"let"} if let - elder else set()
        self.assertEqual(found, {"elder", "let"})


def names_of(lot):
    return [step[3] for steps in lot for step in steps]


class ResultsTest(GuardCase):
    def test_attributes(self):
        self.assertIs(EveryLate(len).looks, len)
        fewest = FewestElder(len, "x")
        self.assertEqual((fewest.programs, fewest.looks), (len, "x"))

    def test_equal_exactly_if_all_attributes_are(self):
        self.assertEqual(EveryLate((1,)), EveryLate((1,)))
        self.assertTrue(EveryLate((1,)) != EveryLate((2,)))
        self.assertEqual(FewestElder((0,), ()), FewestElder((0,), ()))
        self.assertTrue(FewestElder((0,), ()) != FewestElder((1,), ()))
        self.assertTrue(FewestElder((0,), ()) != FewestElder((0,), ((0, 0),)))
        for other in (*OTHER_KINDS, 0, (), (1,), ((0,), ()), Order((1,))):
            self.assertFalse(EveryLate((1,)) == other)
            self.assertFalse(FewestElder((0,), ()) == other)
        self.assertFalse(EveryLate(()) == FewestElder((), ()))
        self.assertFalse(FewestElder((), ()) == EveryLate(()))
        self.assertFalse(FewestElder((0, 1), ()) == Order((0, 1)))


class ErrorsTest(GuardCase):
    def test_bad_weavings_come_first(self):
        with_orders = (late_look, elder_pockets, elder_final, elder_looks, elder_walk)
        for wrong in (*OTHER_KINDS, 0, "0011", (0, 0, 1, 2), (0, 0, 1, True)):
            for call in with_orders:
                self.refuses(BadWeaving, {"what": "form"}, call, EXAMPLE, wrong, None)
            for call in (elder_letting, fewest_elder):
                self.refuses(BadWeaving, {"what": "form"}, call, EXAMPLE, wrong)
        for wrong in ((), (0, 0, 1), [0, 0, 1, 1, 1], (0, 0, 0, 1)):
            for call in with_orders:
                self.refuses(BadWeaving, {"what": "length"}, call, EXAMPLE, wrong, (0, 0))
            for call in (elder_letting, fewest_elder):
                self.refuses(BadWeaving, {"what": "length"}, call, EXAMPLE, wrong)

    def test_bad_orders_come_next(self):
        for wrong in (*OTHER_KINDS, 0, "01", (), (0,), (0, 0), (0, 1, 2), (1, 2), (0, 1, 1), (False, True), [0, True],
                      (0, 1.0), {0, 1}):
            for call in (late_look, elder_pockets, elder_final, elder_looks, elder_walk):
                self.refuses(BadOrder, {}, call, EXAMPLE, [0, 1, 0, 1], wrong)
            self.refuses(BadOrder, {}, lambda: list(weavings_of_order(EXAMPLE, wrong)))

    def test_nothing_that_is_passed_in_is_changed(self):
        weaving, order = [1, 0, 0, 1], [1, 0]
        for call in (late_look, elder_pockets, elder_final, elder_looks, elder_walk):
            call(EXAMPLE, weaving, order)
        elder_letting(EXAMPLE, weaving)
        fewest_elder(EXAMPLE, weaving)
        list(weavings_of_order(EXAMPLE, order))
        self.assertEqual((weaving, order), ([1, 0, 0, 1], [1, 0]))
        self.assertEqual(EXAMPLE, lot_of_text("2: kept 0; any 0 by 0 as 0 | any 0 as 1; any 1 as 2"))

    def test_tuples_throughout(self):
        for found in (elder_pockets, elder_final, elder_looks, elder_walk):
            lists = found(EXAMPLE, [1, 0, 0, 1], [0, 1])
            self.assertEqual(repr(lists), repr(found(EXAMPLE, (1, 0, 0, 1), (0, 1))))
            self.assertNotIn("[", repr(lists))
        self.assertEqual(repr(fewest_elder(EXAMPLE, [1, 0, 0, 1]).programs), "(1, 0)")


if __name__ == "__main__":
    unittest.main()
