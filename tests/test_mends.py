"""[9.2], [9.3] and the example of part 9: goals and mends."""

import itertools
import random
import unittest

from helper import (
    OTHER_KINDS, GuardCase, all_sets, blind_lot, in_lists, least_of, made_up_edit, made_up_goal, made_up_lots, plain_met,
    pool_facts, taken_facts, with_unlike_names,
)
from knownguards.edits import edited_through
from knownguards.errors import BadEdit, BadGoal, BadMendPool, TooMany
from knownguards.guards import Guard
from knownguards.lottexts import lot_of_text
from knownguards.mends import check_goals, find_mends, goal_met, mend_fault
from knownguards.shares import share_of
from knownguards.weavings import all_weavings

EXAMPLE = lot_of_text("2: kept 0; any 0 by 0 as 0 | any 0 as 1; any 1 as 2")
POOL = (("drop", 1, 1), ("step", 0, 1, (0, "any", (), 5)))
LOTS = [EXAMPLE, blind_lot(2), blind_lot(1, 2), *[lot for lot in made_up_lots(60, "mends") if lot.total < 6]]
MANY = ((blind_lot(2, 3, 2), 210), (blind_lot(4, 1, 2), 105), (blind_lot(2, 2, 3), 210), (blind_lot(3, 1, 3), 140))


class CheckGoalsTest(GuardCase):
    def test_tuples_in_their_order(self):
        goals = [["share", [2, 4]], ("lets", [0, 1, 0]), ["bars", ()], ("elder", (2,) * 7)]
        checked = (("share", (2, 4)), ("lets", (0, 1, 0)), ("bars", ()), ("elder", (2, 2, 2, 2, 2, 2, 2)))
        self.assertEqual(repr(check_goals(goals)), repr(checked))
        self.assertEqual(check_goals(tuple(goals[:1])), checked[:1])
        self.assertEqual(check_goals([("share", (7, 3)), ("share", (7, 3))]), (("share", (7, 3)),) * 2)
        self.assertEqual(goals, [["share", [2, 4]], ("lets", [0, 1, 0]), ["bars", ()], ("elder", (2,) * 7)])

    def test_what_is_no_sequence_or_has_no_such_length(self):
        good = ("lets", (0,))
        for wrong in (*OTHER_KINDS, 0, "lets", (), [], [good] * 5, [None] * 5, {good: 1}):
            self.refuses(BadGoal, {"index": -1}, check_goals, wrong)

    def test_the_first_that_is_no_goal(self):
        wrongs = (*OTHER_KINDS, 0, "lets", (), ("lets",), ("lets", (0,), 0), ("let", (0,)), (None, (0,)), (["lets"], ()),
                  (("lets", (0,)), ()), ("lets", None), ("bars", "01"), ("elder", 0), ("lets", {0}), ("lets", (3,)),
                  ("bars", (0, -1)), ("elder", (0, True)), ("lets", (0.0,)), ("lets", (0,) * 8), ("bars", ((0,),)),
                  ("share", ()), ("share", (1,)), ("share", (1, 2, 3)), ("share", (-1, 2)), ("share", (1, 0)),
                  ("share", (True, 2)), ("share", (0, True)), ("share", (1, -2)), ("share", (1.0, 2)), ("share", 1),
                  ("share", None), ("share", "12"), (b"lets", (0,)), ("Lets", (0,)), ("shares", (1, 2)))
        for wrong in wrongs:
            for at in range(4):
                goals = [["bars", [0, 1]]] * at + [wrong] + [None] * (3 - at)
                self.refuses(BadGoal, {"index": at}, check_goals, goals)
            self.refuses(BadGoal, {"index": 0}, goal_met, EXAMPLE, wrong)


class GoalMetTest(GuardCase):
    def test_every_weaving_of_some_lots(self):
        seen = set()
        for lot in LOTS:
            for weaving, word in itertools.product(all_weavings(lot), ("lets", "bars", "elder")):
                met = goal_met(lot, [word, list(weaving)])
                self.assertIs(met, plain_met(lot, (word, weaving)))
                seen.add((word, met))
        self.assertEqual(len(seen), 6)

    def test_rows_that_are_no_weavings(self):
        for row in ((), (0,), (0, 0, 1), (0, 0, 1, 1, 1), (0, 1, 2, 0), (2,) * 7, (0, 0, 0, 1)):
            for word in ("lets", "bars", "elder"):
                self.assertIs(goal_met(EXAMPLE, (word, row)), False)

    def test_shares(self):
        for lot in LOTS:
            top, bottom = share_of(Guard.greatest(lot))
            for times in (1, 3):
                self.assertIs(goal_met(lot, ("share", (times * top, times * bottom))), True)
                self.assertIs(goal_met(lot, ["share", [times * top * 50 + 1, times * bottom * 50]]), False)
            self.assertIs(goal_met(lot, ("share", (0, 9))), True)
            self.assertIs(goal_met(lot, ("share", (10 ** 30 + 1, 10 ** 30))), False)
            self.assertIs(goal_met(lot, ("share", (1, 1))), (top, bottom) == (1, 1))
            for goal in ((1, 2), (4, 8), (2, 3), (5, 4)):
                self.assertIs(goal_met(lot, ("share", goal)), plain_met(lot, ("share", goal)))

    def test_more_than_90_weavings(self):
        self.assertEqual(len(all_weavings(blind_lot(2, 2, 2))), 90)
        self.assertIs(goal_met(blind_lot(2, 2, 2), ("share", (1, 1))), True)
        for lot, count in MANY:
            self.assertEqual(len(all_weavings(lot)), count)
            for share in ((0, 1), (1, 2), (5, 4)):
                self.refuses(TooMany, {"count": count}, goal_met, lot, ("share", share))
            weaving = all_weavings(lot)[1]
            self.assertIs(goal_met(lot, ("lets", weaving)), plain_met(lot, ("lets", weaving)))
            self.assertIs(goal_met(lot, ("bars", weaving)), plain_met(lot, ("bars", weaving)))
            self.assertIs(goal_met(lot, ("elder", weaving)), True)
            self.refuses(BadGoal, {"index": 0}, goal_met, lot, ("share", (1, 0)))


class FindMendsTest(GuardCase):
    def check_all_sets(self, lot, pool, goals):
        """The least mends and the judge's words, by going through all sets of places; returns the mends."""
        words = {}
        for places in all_sets(range(len(pool))):
            try:
                made = edited_through(lot, [pool[place] for place in places])
                words[places] = None if all(plain_met(made, goal) for goal in goals) else "goal"
            except BadEdit:
                words[places] = "edits"
        mends = [places for places in words if words[places] is None]
        least = least_of(mends)
        self.assertEqual(find_mends(lot, pool, goals), least)
        self.assertEqual(find_mends(lot, in_lists(tuple(pool)), in_lists(tuple(goals))), least)
        for places, word in words.items():
            expected = word if word or places in least else "least"
            self.assertEqual(mend_fault(lot, pool, goals, list(places)), expected)
        return mends

    def test_all_sets_of_some_pools(self):
        rng = random.Random("mends")
        found = set()
        for lot in [lot for lot in LOTS if len(lot) > 1] * 20:
            pool = tuple(made_up_edit(rng, lot) for _ in range(rng.randint(1, 6)))
            goals = [made_up_goal(rng, lot) for _ in range(4)]
            goals = tuple([goal for goal in goals if not plain_met(lot, goal)][:1] + goals[:rng.randint(0, 1)])
            if not goals:
                continue
            mends = self.check_all_sets(lot, pool, goals)
            least = least_of(mends)
            found.add(min(len(least), 2))
            if least and any(places not in mends for places in all_sets(range(len(pool))) if set(places) > set(least[0])):
                found.add("more may spoil it")
            if any(len(places) > 1 for places in least):
                found.add("two edits needed")
        self.assertEqual(found, {0, 1, 2, "more may spoil it", "two edits needed"})

    def test_edits_are_made_ascending_by_place(self):
        lot = lot_of_text("1: kept 0; any 0 by 0 as 0 | any 0 as 1")
        drop, blind = ("drop", 0, 0), ("step", 0, 1, (0, "any", (), 5))
        goal = ("lets", (0, 1))
        self.assertEqual(find_mends(lot, [blind, drop], [goal]), ((0, 1),))
        self.assertEqual(find_mends(lot, [drop, blind], [goal]), ())
        self.assertEqual(mend_fault(lot, [drop, blind], [goal], (0, 1)), "edits")
        self.assertEqual(mend_fault(lot, [blind, drop], [goal], (1,)), "edits")

    def test_no_edit_needed(self):
        self.assertEqual(find_mends(EXAMPLE, POOL, [("lets", (0, 0, 1, 1)), ("share", (1, 3))]), ((),))
        self.assertIsNone(mend_fault(EXAMPLE, POOL, [("lets", (0, 0, 1, 1))], ()))
        self.assertEqual(mend_fault(EXAMPLE, POOL, [("lets", (0, 0, 1, 1))], (1,)), "least")

    def test_the_example_of_the_document(self):
        goals = [("lets", (0, 1, 0, 1))]
        self.assertIs(goal_met(EXAMPLE, ("bars", (0, 1, 0, 1))), True)
        self.assertEqual(find_mends(EXAMPLE, POOL, goals), ((1,),))
        self.assertIsNone(mend_fault(EXAMPLE, POOL, goals, [1]))
        self.assertEqual(mend_fault(EXAMPLE, POOL, goals, [0]), "goal")
        self.assertEqual(find_mends(EXAMPLE, POOL, [("lets", (0, 1, 0)), ("elder", (0, 1, 0))]), ((0,),))

    def test_pools_of_facts_alone(self):
        """Without shared names and "same", more facts let no less."""
        rng = random.Random("facts")
        tried = 0
        for shared in made_up_lots(80, "facts"):
            lot = with_unlike_names(shared)
            if lot.total > 5 or len(lot) == 1:
                continue
            facts = taken_facts(rng, lot, pool_facts(lot), 4)
            pool = tuple(("fact", fact) for fact in facts)
            weaving = rng.choice(all_weavings(lot))
            for goal in (("lets", weaving), ("share", (2, 3)), ("bars", weaving)):
                mends = self.check_all_sets(lot, pool, (goal,))
                for one, other in itertools.product(all_sets(range(len(pool))), repeat=2):
                    if set(one) <= set(other) and (other if goal[0] == "bars" else one) in mends:
                        self.assertIn(one if goal[0] == "bars" else other, mends)
                        tried += one != other
        self.assertGreater(tried, 100)

    def test_places(self):
        goals = [("lets", (0, 1, 0, 1))]
        for wrong in (*OTHER_KINDS, 0, "0", (2,), (-1,), (0, 0), (1, 0), (False,), [0, True], (0.0,), (0, 1, 2),
                      ((0,),), {0}):
            self.assertEqual(mend_fault(EXAMPLE, POOL, goals, wrong), "places")

    def test_the_first_word_that_applies(self):
        pool = [("drop", 0, 0), ("fact", ("without", 0, 1, 0)), ("drop", 1, 1)]
        self.assertEqual(mend_fault(EXAMPLE, pool, [("lets", (2,))], (1, 0)), "places")
        self.assertEqual(mend_fault(EXAMPLE, pool, [("lets", (2,))], (0,)), "edits")
        self.assertEqual(mend_fault(EXAMPLE, pool, [("lets", (2,))], (0, 1)), "edits")
        self.assertEqual(mend_fault(EXAMPLE, pool, [("lets", (2,))], (1,)), "goal")
        self.assertEqual(mend_fault(EXAMPLE, pool, [("lets", (0, 1, 0)), ("bars", (0, 1, 0))], (2,)), "goal")
        self.assertEqual(mend_fault(EXAMPLE, pool, [("lets", (0, 1, 0))], (1, 2)), "least")
        self.assertIsNone(mend_fault(EXAMPLE, pool, [("lets", (0, 1, 0))], (2,)))


class ErrorsTest(GuardCase):
    calls = (lambda *told: find_mends(*told), lambda *told: mend_fault(*told, None))

    def test_bad_pools_come_first(self):
        for call in self.calls:
            for wrong in (*OTHER_KINDS, 0, "drop", (), [], [POOL[0]] * 7, [None] * 7, {POOL[0]: 1}):
                self.refuses(BadMendPool, {"index": -1}, call, EXAMPLE, wrong, None)
            for wrong in (*OTHER_KINDS, 0, "drop", (), ("drop",), ("drop", 0), ("drop", 0, 0, 0), ("keep", 0, 0),
                          ("step", 0, 0), ("fact",), ("swap", 0), (["drop"], 0, 0), (None, 0, 0), (b"drop", 0, 0)):
                for at in range(6):
                    pool = [["drop", 0, 0]] * at + [wrong] + [None] * (5 - at)
                    self.refuses(BadMendPool, {"index": at}, call, EXAMPLE, pool, None)

    def test_the_first_word_and_the_length_alone(self):
        pool = [("drop", None, "x"), ["step", 9, True, None], ("fact", 0), ("swap", (), [])]
        goals = [("lets", (0, 1, 0, 1))]
        self.assertEqual(find_mends(EXAMPLE, pool, goals), ())
        self.assertEqual(find_mends(EXAMPLE, pool + [POOL[1]], goals), ((4,),))
        self.assertEqual(mend_fault(EXAMPLE, pool, goals, (2,)), "edits")

    def test_bad_goals_come_next(self):
        for call in self.calls:
            for lot in (EXAMPLE, MANY[0][0]):
                for goals, index in ((None, -1), ((), -1), ([None], 0), ([("lets", (0,)), ("share", (0, 0))], 1),
                                     ([("share", (1, 2)), ("lets", (True,))], 1), ([("share", (1, 2))] * 5, -1)):
                    self.refuses(BadGoal, {"index": index}, call, lot, POOL, goals)

    def test_too_many_weavings_come_last(self):
        drops = [("drop", 0, 0), ("drop", 1, 0), ("drop", 2, 0)]
        for call in self.calls:
            for lot, count in MANY:
                for goals in ([("share", (1, 2))], [("lets", (0,)), ["share", [5, 4]]]):
                    self.refuses(TooMany, {"count": count}, call, lot, drops, goals)
        for lot, _ in MANY:
            goals = [("lets", all_weavings(lot)[0])]
            self.assertEqual(find_mends(lot, drops, goals), ((),))
            self.assertEqual(mend_fault(lot, drops, goals, None), "places")
        self.assertEqual(find_mends(blind_lot(2, 2, 2), drops, [("share", (1, 1))]), ((),))

    def test_nothing_that_is_passed_in_is_changed(self):
        pool = [["drop", 1, 1], ["step", 0, 1, [0, "any", [], 5]]]
        goals, places = [["lets", [0, 1, 0, 1]], ["share", [1, 3]]], [1]
        kept = repr((pool, goals, places))
        find_mends(EXAMPLE, pool, goals)
        mend_fault(EXAMPLE, pool, goals, places)
        check_goals(goals)
        goal_met(EXAMPLE, goals[0])
        self.assertEqual(repr((pool, goals, places)), kept)
        self.assertEqual(EXAMPLE, lot_of_text("2: kept 0; any 0 by 0 as 0 | any 0 as 1; any 1 as 2"))


if __name__ == "__main__":
    unittest.main()
