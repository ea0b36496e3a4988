"""[7.1], [7.2]: guards."""

import itertools
import random
import unittest

from helper import OTHER_KINDS, GuardCase, blind_lot, made_up_guard_weavings, made_up_lots
from knownguards.errors import BadGuard, BadRow, BadWeaving, NotAll, UnlikeLots
from knownguards.guards import Guard, begins_let, judged_guard, lets_no_more, next_let
from knownguards.letting import let_weavings
from knownguards.lots import Lot
from knownguards.lottexts import lot_of_text
from knownguards.weavings import all_weavings, unwoven_weavings

EXAMPLE = lot_of_text("2: any 0 by 0 as 0; any 1 by 0 1 as 1 | any 0 by 0 as 2; any 1 by 0 1 as 3")
LETS = ((0, 0, 1, 1), (0, 1, 0, 1), (1, 0, 1, 0), (1, 1, 0, 0))
LOTS = [EXAMPLE, blind_lot(4), blind_lot(1, 1, 1), blind_lot(2, 3, 2), *made_up_lots(15, "guards")]


def guards_of(lot, rng):
    """The guards of the three static methods and two of any weavings."""
    unwoven, weavings = unwoven_weavings(lot), all_weavings(lot)
    made_up = [Guard(lot, made_up_guard_weavings(rng, weavings, unwoven)) for _ in range(2)]
    return [Guard.unwoven(lot), Guard.greatest(lot), Guard.whole(lot), *made_up]


def rows_of(lot, length):
    return itertools.chain(*[itertools.product(range(len(lot)), repeat=many) for many in range(length + 1)])


class GuardTest(GuardCase):
    def test_any_order_and_duplicates(self):
        rng = random.Random("any order")
        for lot in LOTS:
            unwoven = unwoven_weavings(lot)
            weavings = made_up_guard_weavings(rng, all_weavings(lot), unwoven)
            given = [list(weaving) if rng.random() < 0.5 else weaving for weaving in weavings]
            for sequence in (given, tuple(given)):
                guard = Guard(lot, sequence)
                self.assertIs(guard.lot, lot)
                self.assertEqual(guard.weavings, tuple(sorted(set(weavings))))
                self.assertTrue(all(type(weaving) is tuple for weaving in guard.weavings))
                self.assertEqual(len(guard), len(set(weavings)))
                self.assertEqual(list(guard), sorted(set(weavings)))
                for weaving in all_weavings(lot):
                    self.assertIs(weaving in guard, weaving in weavings)
                    self.assertIs(list(weaving) in guard, weaving in weavings)
                    self.assertIs(weaving not in guard, weaving not in weavings)

    def test_iteration_again_and_again(self):
        guard = Guard.unwoven(EXAMPLE)
        self.assertEqual([(one, other) for one in guard for other in guard],
                         list(itertools.product(unwoven_weavings(EXAMPLE), repeat=2)))

    def test_equal_if_lots_and_weavings_are(self):
        self.assertEqual(Guard(EXAMPLE, LETS), Guard(Lot(2, EXAMPLE.programs), [list(one) for one in LETS[::-1]] * 2))
        self.assertFalse(Guard(EXAMPLE, LETS) != Guard(EXAMPLE, LETS))
        self.assertFalse(Guard(EXAMPLE, LETS) == Guard(EXAMPLE, LETS[:1] + LETS[2:]))
        self.assertTrue(Guard(EXAMPLE, LETS) != Guard(EXAMPLE, LETS[:2] + LETS[3:]))
        other = lot_of_text("2: any 0 by 0 as 0; any 1 by 0 1 as 1 | any 0 by 0 as 2; any 1 by 0 1 as 4")
        self.assertFalse(Guard(EXAMPLE, LETS) == Guard(other, LETS))
        for other in (*OTHER_KINDS, 0, LETS, list(LETS), EXAMPLE):
            self.assertFalse(Guard(EXAMPLE, LETS) == other)
            self.assertTrue(Guard(EXAMPLE, LETS) != other)

    def test_static_methods(self):
        self.assertEqual(Guard.greatest(EXAMPLE).weavings, LETS)
        for lot in LOTS:
            self.assertEqual(Guard.greatest(lot), Guard(lot, let_weavings(lot)))
            self.assertEqual(Guard.unwoven(lot), Guard(lot, unwoven_weavings(lot)))
            self.assertEqual(Guard.whole(lot), Guard(lot, all_weavings(lot)))
            self.assertIs(Guard.whole(lot).lot, lot)
        for name in ("greatest", "unwoven", "whole"):
            self.assertIsInstance(vars(Guard)[name], staticmethod)

    def test_later_changes_of_the_list_have_no_effect(self):
        given = [list(weaving) for weaving in LETS]
        guard = Guard(EXAMPLE, given)
        self.assertEqual(given, [list(weaving) for weaving in LETS])
        given[1].reverse()
        given.pop()
        self.assertEqual(guard.weavings, LETS)
        self.assertTrue(begins_let(guard, LETS[3]))


class GuardErrorsTest(GuardCase):
    def test_what_is_no_sequence(self):
        for wrong in (*OTHER_KINDS, 0, "0011", set(LETS), {LETS[0]: 1}, Guard(EXAMPLE, LETS)):
            self.refuses(BadGuard, {}, Guard, EXAMPLE, wrong)

    def test_item_by_item(self):
        for wrong in (*OTHER_KINDS, 0, "0011", (0, 0, 1, 2), (0, 0, 1, True), [0, 0, 1, -1]):
            for at in range(4):
                weavings = [list(LETS[1])] * at + [wrong] + [(), None]
                self.refuses(BadWeaving, {"what": "form"}, Guard, EXAMPLE, weavings)
        for wrong in ((), (0,), (0, 0, 0, 1), [0, 0, 1, 1, 1]):
            for at in range(4):
                weavings = [LETS[1]] * at + [wrong] + [None]
                self.refuses(BadWeaving, {"what": "length"}, Guard, EXAMPLE, weavings)

    def test_the_first_unwoven_weaving_that_is_missing(self):
        self.refuses(NotAll, {"weaving": (0, 0, 1, 1)}, Guard, EXAMPLE, ())
        self.refuses(NotAll, {"weaving": (0, 0, 1, 1)}, Guard, EXAMPLE, LETS[1:])
        self.refuses(NotAll, {"weaving": (1, 1, 0, 0)}, Guard, EXAMPLE, LETS[:-1])
        for lot in LOTS:
            weavings = list(all_weavings(lot))[::-1]
            for missing in unwoven_weavings(lot):
                weavings.remove(missing)
                self.refuses(NotAll, {"weaving": unwoven_weavings(lot)[0]}, Guard, lot, weavings)

    def test_bad_weavings_come_ahead_of_missing_ones(self):
        self.refuses(BadWeaving, {"what": "form"}, Guard, EXAMPLE, [LETS[1], None])
        self.refuses(BadWeaving, {"what": "length"}, Guard, EXAMPLE, [LETS[1], ()])


class BeginsTest(GuardCase):
    def test_all_rows_of_some_guards(self):
        rng = random.Random("rows")
        for lot in LOTS:
            for guard in guards_of(lot, rng):
                for row in rows_of(lot, min(lot.total + 2, 6 if len(lot) < 3 else 5)):
                    begun = [weaving for weaving in guard.weavings if weaving[:len(row)] == row]
                    self.assertIs(begins_let(guard, list(row)), bool(begun))
                    following = {weaving[len(row)] for weaving in begun if len(weaving) > len(row)}
                    self.assertEqual(next_let(guard, row), tuple(sorted(following)))

    def test_whole_weavings_and_longer_rows(self):
        for lot in LOTS:
            guard = Guard.greatest(lot)
            for weaving in all_weavings(lot):
                self.assertIs(begins_let(guard, weaving), weaving in guard)
                self.assertEqual(next_let(guard, weaving), ())
                self.assertFalse(begins_let(guard, weaving + (0,)))
                self.assertEqual(next_let(guard, weaving + (0,)), ())
            self.assertTrue(begins_let(guard, ()))
            self.assertEqual(next_let(guard, []), tuple(range(len(lot))))

    def test_the_example_of_the_document(self):
        guard = Guard.greatest(EXAMPLE)
        self.assertTrue(begins_let(guard, (0, 1)))
        self.assertFalse(begins_let(guard, (0, 1, 1)))
        self.assertEqual(next_let(guard, (0, 1)), (0,))
        self.assertEqual(next_let(guard, (0, 1, 1)), ())

    def test_bad_rows(self):
        guard = Guard.unwoven(EXAMPLE)
        for call in (begins_let, next_let):
            for wrong in (*OTHER_KINDS, 0, "01", {0}):
                self.refuses(BadRow, {"index": -1}, call, guard, wrong)
            for wrong in (*OTHER_KINDS, 2, -1, "0", (0,)):
                for at in range(7):
                    self.refuses(BadRow, {"index": at}, call, guard, [0, 1, 1, 0, 0, 0][:at] + [wrong, None])

    def test_nothing_that_is_passed_in_is_changed(self):
        guard, row = Guard.unwoven(EXAMPLE), [0, 0]
        begins_let(guard, row)
        next_let(guard, row)
        self.assertEqual((row, guard), ([0, 0], Guard.unwoven(EXAMPLE)))


class JudgesTest(GuardCase):
    def test_lets_no_more(self):
        rng = random.Random("no more")
        for lot in LOTS:
            for guard, other in itertools.product(guards_of(lot, rng), repeat=2):
                more = sorted(set(guard.weavings) - set(other.weavings))
                self.assertEqual(lets_no_more(guard, other), more[0] if more else None)
            self.assertIsNone(lets_no_more(Guard.unwoven(lot), Guard.greatest(lot)))
            self.assertIsNone(lets_no_more(Guard.greatest(lot), Guard.whole(Lot(lot.cells, lot.programs))))

    def test_unlike_lots(self):
        guard = Guard.whole(EXAMPLE)
        for lot in (lot_of_text("2: any 0 by 0 as 0; any 1 by 0 1 as 1 | any 0 by 0 as 2; any 1 by 0 1 as 4"),
                    Lot(3, EXAMPLE.programs), blind_lot(2, 2)):
            self.refuses(UnlikeLots, {}, lets_no_more, guard, Guard.whole(lot))
            self.refuses(UnlikeLots, {}, lets_no_more, Guard.unwoven(lot), guard)

    def test_judged_guard(self):
        rng = random.Random("judged")
        wrong = 0
        for lot in LOTS:
            let = let_weavings(lot)
            for guard in guards_of(lot, rng):
                first = [weaving for weaving in guard.weavings if weaving not in let]
                self.assertEqual(judged_guard(guard), first[0] if first else None)
                wrong += bool(first)
            self.assertIsNone(judged_guard(Guard.greatest(lot)))
            self.assertIsNone(judged_guard(Guard.unwoven(lot)))
        self.assertGreater(wrong, 10)
        self.assertEqual(judged_guard(Guard.whole(EXAMPLE)), (0, 1, 1, 0))


if __name__ == "__main__":
    unittest.main()
