"""[3.4] to [3.8], [0.5]: meetings, orders, rings and walks."""

import itertools
import unittest

from helper import OTHER_KINDS, GuardCase, blind_lot, made_up_lots, places_of
from knownguards.errors import BadOrder, BadWeaving, OrderTurned
from knownguards.facts import cells_floor
from knownguards.lottexts import lot_of_text
from knownguards.orders import (
    Order, Ring, all_orders, check_order, meetings_of, order_fault, order_for, ring_fault, swap_walk,
)
from knownguards.outcomes import outcome_of, outcome_of_wholes
from knownguards.weavings import all_weavings, is_unwoven, placed_steps, unwoven_weavings

EXAMPLE = lot_of_text("2: any 0 as 0; any 1 as 1 | any 0 as 2; any 1 as 3")
THREE = lot_of_text("3: any 0 as 0; any 1 as 1 | any 1 as 2; any 2 as 3 | any 2 as 4; any 0 as 5")
SEVEN = lot_of_text("2: kept 0; any 1 as 0; adds 0 as 1 | adds 0 as 2; kept 1 | any 0 as 3; adds 1 as 4")
ONE = lot_of_text("1: any 0 as 0; any 0 as 1; kept 0; adds 0 as 3")
LOTS = [EXAMPLE, THREE, SEVEN, ONE, *made_up_lots(40, "orders")]


def meet(lot, one, other):
    """Whether two steps meet, by the words of [3.4]."""
    (cell, kind, _, _), (other_cell, other_kind, _, _) = (
        lot.programs[program][place] for program, place in (one, other)
    )
    both_look = kind == other_kind == "kept"
    both_add = kind == other_kind == "adds"
    return one[0] != other[0] and cell == other_cell and not both_look and not both_add


def turned(row, meetings):
    return [meeting for meeting in meetings if row.index(meeting[2]) < row.index(meeting[0])]


def is_ring(links, meetings):
    """Whether links are a ring, by the words of [3.6]."""
    behind = links[1:] + links[:1]
    return (
        type(links) is tuple and len(links) in (2, 3)
        and all(link in meetings for link in links)
        and all(link[2] == following[0] for link, following in zip(links, behind))
        and len({link[0] for link in links}) == len(links)
    )


class MeetingsTest(GuardCase):
    def test_kinds_that_meet(self):
        words = {"any": "any 0 as 1", "kept": "kept 0", "adds": "adds 0 as 2"}
        elsewhere = {"any": "any 1 as 1", "kept": "kept 1", "adds": "adds 1 as 3"}
        for one, other in itertools.product(words, repeat=2):
            lot = lot_of_text(f"2: {words[one]} | {words[other]}")
            expected = () if one == other != "any" else ((0, 0, 1, 0),)
            self.assertEqual(meetings_of(lot, (0, 1)), expected)
            apart = lot_of_text(f"2: {words[one]} | {elsewhere[other]}")
            self.assertEqual(meetings_of(apart, (0, 1)), ())

    def test_the_example_of_the_document(self):
        self.assertEqual(meetings_of(EXAMPLE, (0, 1, 0, 1)), ((0, 0, 1, 0), (0, 1, 1, 1)))
        self.assertEqual(meetings_of(EXAMPLE, [0, 1, 1, 0]), ((0, 0, 1, 0), (1, 1, 0, 1)))

    def test_every_weaving(self):
        for lot in LOTS:
            for weaving in all_weavings(lot):
                steps = placed_steps(lot, weaving)
                expected = sorted(
                    (*one, *other) for one, other in itertools.combinations(steps, 2) if meet(lot, one, other)
                )
                self.assertEqual(meetings_of(lot, weaving), tuple(expected))

    def test_at_the_floor_all_steps_of_unlike_programs_on_one_cell_meet(self):
        lot = cells_floor(lot_of_text("2: kept 0; adds 1 as 1 | kept 0; adds 1 as 2"))
        self.assertEqual(meetings_of(lot, (0, 0, 1, 1)), ((0, 0, 1, 0), (0, 1, 1, 1)))


class CheckOrderTest(GuardCase):
    def test_rows_of_all_programs(self):
        for lot in LOTS:
            for row in itertools.permutations(range(len(lot))):
                self.assertEqual(check_order(lot, row), row)
                self.assertEqual(check_order(lot, list(row)), row)
                self.assertIs(type(check_order(lot, list(row))), tuple)

    def test_anything_else(self):
        for wrong in (*OTHER_KINDS, 0, "01", b"\0\1", (), (0,), (0, 0), (1, 1), (0, 1, 2), (1, 2), (-1, 0), (0, True),
                      (False, 1), [True, False], (0, 1.0), ("0", "1"), (0, None), ((0,), (1,)), [0, [1]], {0: 0, 1: 1}):
            self.refuses(BadOrder, {}, check_order, EXAMPLE, wrong)
        for wrong in ((), (1,), (0, 0), (False,), ("0",), [-1]):
            self.refuses(BadOrder, {}, check_order, ONE, wrong)
        for wrong in ((0, 1), (0, 1, 1), (0, 1, 3), (0, 1, 2, 2), (0, 1, 2, 3), (2, True, 0)):
            self.refuses(BadOrder, {}, check_order, THREE, wrong)


class OrdersTest(GuardCase):
    def test_the_example_of_the_document(self):
        self.assertEqual(all_orders(EXAMPLE, (0, 1, 0, 1)), ((0, 1),))
        self.assertEqual(order_for(EXAMPLE, (0, 1, 0, 1)), Order((0, 1)))
        self.assertEqual(all_orders(EXAMPLE, (0, 1, 1, 0)), ())
        ring = order_for(EXAMPLE, (0, 1, 1, 0))
        self.assertIn(ring.links, (((0, 0, 1, 0), (1, 1, 0, 1)), ((1, 1, 0, 1), (0, 0, 1, 0))))
        self.assertEqual(order_fault(EXAMPLE, (0, 1, 1, 0), (0, 1)), (1, 1, 0, 1))
        self.assertEqual(order_fault(EXAMPLE, (0, 1, 1, 0), [1, 0]), (0, 0, 1, 0))
        self.assertEqual(order_fault(EXAMPLE, (0, 1, 0, 1), (1, 0)), (0, 0, 1, 0))
        self.assertIsNone(order_fault(EXAMPLE, [0, 1, 0, 1], (0, 1)))

    def test_every_weaving(self):
        for lot in LOTS:
            rows = list(itertools.permutations(range(len(lot))))
            for weaving in all_weavings(lot):
                meetings = meetings_of(lot, weaving)
                orders = []
                for row in rows:
                    fault = order_fault(lot, weaving, row)
                    self.assertEqual(fault, min(turned(row, meetings), default=None))
                    if fault is None:
                        orders.append(row)
                self.assertEqual(all_orders(lot, weaving), tuple(orders))
                found = order_for(lot, list(weaving))
                if orders:
                    self.assertEqual(found, Order(orders[0]))
                else:
                    self.assertIs(type(found), Ring)
                    self.assertTrue(is_ring(found.links, meetings))
                    self.assertIsNone(ring_fault(lot, weaving, found))

    def test_a_ring_of_three_programs(self):
        for weaving in ((0, 1, 2, 0, 1, 2), (0, 2, 1, 0, 2, 1), (2, 1, 0, 2, 0, 1)):
            found = order_for(THREE, weaving)
            self.assertEqual(sorted(found.links), [(0, 0, 2, 1), (1, 0, 0, 1), (2, 0, 1, 1)])
            self.assertIsNone(ring_fault(THREE, weaving, found))
        self.assertEqual(all_orders(THREE, (0, 1, 2, 0, 2, 1)), ())

    def test_every_unwoven_weaving_has_its_own_row_as_an_order(self):
        for lot in LOTS:
            for weaving in unwoven_weavings(lot):
                row = sorted(set(weaving), key=weaving.index)
                self.assertIsNone(order_fault(lot, weaving, row))

    def test_without_meetings_every_row_is_an_order(self):
        lot = lot_of_text("3: any 0 as 0; any 0 as 1 | any 1 as 2; any 1 as 3 | any 2 as 4")
        for weaving in all_weavings(lot):
            self.assertEqual(all_orders(lot, weaving), tuple(itertools.permutations(range(3))))
            self.assertEqual(order_for(lot, weaving), Order((0, 1, 2)))

    def test_an_order_ends_in_the_outcome(self):
        for lot in LOTS:
            for weaving in all_weavings(lot):
                for row in all_orders(lot, weaving):
                    self.assertEqual(outcome_of_wholes(lot, row), outcome_of(lot, weaving))


class RingFaultTest(GuardCase):
    weaving = (0, 1, 1, 0)
    good = ((0, 0, 1, 0), (1, 1, 0, 1))

    def fault(self, links, lot=EXAMPLE, weaving=None):
        return ring_fault(lot, weaving or self.weaving, Ring(links))

    def test_right_rings(self):
        for links in (self.good, list(self.good), self.good[::-1], [list(link) for link in self.good]):
            self.assertIsNone(self.fault(links))

    def test_form(self):
        one, other = self.good
        for links in (*OTHER_KINDS, 0, (), (one,), self.good * 2, "0010", {0: one, 1: other}):
            self.assertEqual(self.fault(links), "form")
        for wrong in (*OTHER_KINDS, 0, (), (1, 1, 0), (1, 1, 0, 1, 0), "1101", {1: 1, 0: 0}, (1, 1, 0, True),
                      (True, 1, 0, 1), (1, 1, False, 1), (1, 1, 0, 1.0), (1, 1, 0, "1"), (1, 1, 0, None)):
            self.assertEqual(self.fault((one, wrong)), "form")
            self.assertEqual(self.fault([wrong, one]), "form")
            self.assertEqual(self.fault((one, other, wrong)), "form")

    def test_step(self):
        one, other = self.good
        for wrong in ((2, 0, 0, 0), (-1, 0, 0, 0), (0, 0, 2, 0), (0, 0, -1, 0), (0, 2, 1, 0), (0, -1, 1, 0),
                      (0, 0, 1, 2), (0, 0, 1, -1), (10 ** 30, 0, 0, 0)):
            self.assertEqual(self.fault((one, wrong)), "step")
            self.assertEqual(self.fault((list(wrong), other)), "step")
            self.assertEqual(self.fault((one, other, wrong)), "step")

    def test_meeting(self):
        one, other = self.good
        for wrong in ((1, 0, 0, 0), (0, 1, 1, 1), (0, 0, 1, 1), (1, 0, 0, 1), (0, 0, 0, 1), (0, 0, 0, 0)):
            self.assertEqual(self.fault((one, wrong)), "meeting")
            self.assertEqual(self.fault([list(wrong), other]), "meeting")
            self.assertEqual(self.fault((one, other, wrong)), "meeting")
        self.assertEqual(self.fault(self.good, weaving=(0, 1, 0, 1)), "meeting")

    def test_round(self):
        one, other = self.good
        for links in ((one, one), (other, other), (one, other, one), (one, one, other), (other, one, other)):
            self.assertEqual(self.fault(links), "round")
        lot = lot_of_text("1: any 0 as 0 | any 0 as 1 | any 0 as 2; any 0 as 3")
        for links in (
            ((2, 0, 0, 0), (0, 0, 1, 0)), ((2, 0, 0, 0), (1, 0, 2, 1)), ((0, 0, 2, 1), (2, 0, 1, 0), (0, 0, 1, 0)),
        ):
            self.assertEqual(self.fault(links, lot, (2, 0, 1, 2)), "round")
        for links in (
            ((2, 0, 0, 0), (0, 0, 2, 1)), ((2, 0, 0, 0), (0, 0, 1, 0), (1, 0, 2, 1)),
            ((1, 0, 2, 1), (2, 0, 0, 0), (0, 0, 1, 0)),
        ):
            self.assertIsNone(self.fault(links, lot, (2, 0, 1, 2)))
        self.assertEqual(self.fault(((2, 0, 0, 0), (1, 0, 2, 1), (0, 0, 1, 0)), lot, (2, 0, 1, 2)), "round")

    def test_the_first_word_of_any_link(self):
        one, other = self.good
        step, meeting, form = (2, 0, 0, 0), (1, 0, 0, 0), (0, 0, 1)
        self.assertEqual(self.fault((step, form)), "form")
        self.assertEqual(self.fault((meeting, form)), "form")
        self.assertEqual(self.fault((meeting, step)), "step")
        self.assertEqual(self.fault((step, meeting)), "step")
        self.assertEqual(self.fault((one, meeting)), "meeting")
        self.assertEqual(self.fault((one, one, meeting)), "meeting")

    def test_all_rings_of_two_and_three_meetings(self):
        for weaving in ((0, 1, 2, 1, 0, 2), (0, 2, 1, 0, 2, 1), (0, 1, 1, 2, 2, 0), (2, 0, 1, 2, 0, 1)):
            meetings = meetings_of(THREE, weaving)
            for length in (2, 3):
                for links in itertools.product(meetings, repeat=length):
                    expected = None if is_ring(links, meetings) else "round"
                    self.assertEqual(self.fault(links, THREE, weaving), expected)


class WalkTest(GuardCase):
    def test_the_example_of_the_document(self):
        self.assertEqual(swap_walk(EXAMPLE, (0, 1, 0, 1), (0, 1)), ((0, 1, 0, 1), (0, 0, 1, 1)))

    def test_each_time_the_leftmost_pair(self):
        lot = lot_of_text("3: any 0 as 0; any 0 as 1 | any 1 as 2; any 1 as 3 | any 2 as 4")
        self.assertEqual(swap_walk(lot, [1, 2, 0, 1, 0], [0, 2, 1]), (
            (1, 2, 0, 1, 0), (2, 1, 0, 1, 0), (2, 0, 1, 1, 0), (0, 2, 1, 1, 0), (0, 2, 1, 0, 1), (0, 2, 0, 1, 1),
            (0, 0, 2, 1, 1),
        ))

    def test_every_weaving(self):
        for lot in LOTS:
            for weaving in all_weavings(lot):
                for row in all_orders(lot, weaving):
                    walk = swap_walk(lot, weaving, row)
                    self.assertEqual(walk[0], weaving)
                    for now, following in zip(walk, walk[1:]):
                        pairs = [at for at in range(len(now) - 1) if row.index(now[at + 1]) < row.index(now[at])]
                        exchanged = list(now)
                        exchanged[pairs[0]:pairs[0] + 2] = now[pairs[0] + 1], now[pairs[0]]
                        self.assertEqual(following, tuple(exchanged))
                    self.assertEqual(walk[-1], tuple(program for program in row for _ in lot.programs[program]))
                    for now in (walk[0], walk[len(walk) // 2], walk[-1]):
                        self.assertEqual(meetings_of(lot, now), meetings_of(lot, weaving))
                        self.assertEqual(outcome_of(lot, now), outcome_of(lot, weaving))

    def test_the_walk_of_an_unwoven_weaving_by_its_own_row(self):
        for lot in LOTS:
            for weaving in unwoven_weavings(lot):
                row = sorted(set(weaving), key=weaving.index)
                self.assertEqual(swap_walk(lot, list(weaving), row), (weaving,))

    def test_rows_that_turn_a_meeting(self):
        for lot in (EXAMPLE, THREE, SEVEN):
            for weaving in all_weavings(lot):
                for row in itertools.permutations(range(len(lot))):
                    fault = order_fault(lot, weaving, row)
                    if fault is not None:
                        self.refuses(OrderTurned, {"meeting": fault}, swap_walk, lot, weaving, row)


class ResultsTest(GuardCase):
    def test_attributes(self):
        self.assertEqual(Order((1, 0)).programs, (1, 0))
        self.assertEqual(Ring(((0, 0, 1, 0),)).links, ((0, 0, 1, 0),))
        self.assertIs(Ring(len).links, len)

    def test_equal_exactly_if_the_attributes_are(self):
        links = ((0, 0, 1, 0), (1, 1, 0, 1))
        self.assertEqual(Order((0, 1)), Order((0, 1)))
        self.assertEqual(Ring(links), Ring(tuple(links)))
        self.assertNotEqual(Order((0, 1)), Order((1, 0)))
        self.assertTrue(Ring(links) != Ring(links[::-1]))
        self.assertFalse(Order(links) == Ring(links))
        self.assertFalse(Ring(links) == Order(links))
        for other in (*OTHER_KINDS, links, list(links), 0):
            self.assertFalse(Order(links) == other)
            self.assertFalse(Ring(links) == other)


class ErrorsTest(GuardCase):
    calls = (
        (meetings_of, ()), (all_orders, ()), (order_for, ()), (order_fault, (None,)), (ring_fault, (Ring(None),)),
        (swap_walk, (None,)), (order_fault, ((0, 1),)), (swap_walk, ((1, 0),)),
    )

    def test_bad_weavings_come_first(self):
        lot = blind_lot(2, 1)
        for call, more in self.calls:
            for weaving in (*OTHER_KINDS, 0, "001", (0, 0, 2), (0, False, 1), (0, 0, 1, -1)):
                self.refuses(BadWeaving, {"what": "form"}, call, lot, weaving, *more)
            for weaving in ((), (0, 0), (0, 1, 1), [0, 0, 1, 1]):
                self.refuses(BadWeaving, {"what": "length"}, call, lot, weaving, *more)

    def test_bad_orders_come_next(self):
        for call in (order_fault, swap_walk):
            for wrong in (*OTHER_KINDS, 0, (), (0,), (1, 1), (0, 1, 2), (0, True), [False, 1], ("0", "1")):
                self.refuses(BadOrder, {}, call, EXAMPLE, (0, 1, 1, 0), wrong)

    def test_nothing_that_is_passed_in_is_changed(self):
        weaving, row, links = [0, 1, 0, 1], [0, 1], [[0, 0, 1, 0], [0, 1, 1, 1]]
        programs = EXAMPLE.programs
        for call in (meetings_of, all_orders, order_for):
            call(EXAMPLE, weaving)
        walk = swap_walk(EXAMPLE, weaving, row)
        order_fault(EXAMPLE, weaving, row)
        ring_fault(EXAMPLE, weaving, Ring(links))
        self.assertEqual((weaving, row, links), ([0, 1, 0, 1], [0, 1], [[0, 0, 1, 0], [0, 1, 1, 1]]))
        self.assertEqual(EXAMPLE.programs, programs)
        weaving[0] = row[0] = 7
        self.assertEqual(walk, ((0, 1, 0, 1), (0, 0, 1, 1)))


if __name__ == "__main__":
    unittest.main()
