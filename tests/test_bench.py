"""[9.4]: the bench."""

import random
import types
import unittest

from helper import (
    OTHER_KINDS, GuardCase, blind_lot, in_lists, made_up_edit, made_up_goal, made_up_lots, plain_edit, plain_met,
)
from knownguards.bench import Bench
from knownguards.edits import edited_through
from knownguards.errors import BadEdit, BadGoal, NothingMade, TooMany
from knownguards.lots import Lot
from knownguards.lottexts import lot_of_text

LOT = lot_of_text("2: kept 0; any 0 by 0 as 0 | any 0 as 1; any 1 as 2")
SWAP, DROP = ("swap", 1, 0), ("drop", 1, 1)
BLIND, FACT = ("step", 0, 1, (0, "any", (), 5)), ("fact", ("without", 0, 1, 0))
LOTS = [LOT, blind_lot(2), *[lot for lot in made_up_lots(40, "bench") if lot.total < 6]]


def state_of(bench):
    return bench.current, bench.log, len(bench), list(bench), list(bench.lots_made())


class BenchTest(GuardCase):
    def test_the_beginning(self):
        bench = Bench(LOT)
        self.assertEqual(state_of(bench), (LOT, (), 0, [], [LOT]))
        self.assertIs(type(bench.current), Lot)

    def test_properties_and_the_generator(self):
        for name in ("current", "log"):
            self.assertIsInstance(vars(Bench)[name], property)
        self.assertIsInstance(Bench(LOT).lots_made(), types.GeneratorType)

    def test_rows_of_edits_made_and_taken_back(self):
        rng = random.Random("bench")
        for lot in LOTS:
            bench, lots, edits = Bench(lot), [lot], []
            for _ in range(40):
                if edits and rng.random() < 0.3:
                    self.assertEqual(repr(bench.take_back()), repr(edits.pop()))
                    lots.pop()
                else:
                    edit = made_up_edit(rng, bench.current)
                    expected = plain_edit(bench.current, edit)
                    given = in_lists(edit) if rng.random() < 0.5 else edit
                    if isinstance(expected, str):
                        self.refuses(BadEdit, {"index": 0, "what": expected}, bench.make, given)
                    else:
                        self.assertEqual(bench.make(given), expected)
                        lots.append(expected)
                        edits.append(edit)
                self.assertEqual(state_of(bench), (lots[-1], tuple(edits), len(edits), edits, lots))
                self.assertEqual(repr(bench.log), repr(tuple(edits)))
            self.assertEqual(edited_through(lot, bench.log), bench.current)

    def test_tuples_in_the_log(self):
        bench = Bench(LOT)
        for edit in (["step", 0, 1, [0, "any", [0], 7]], ["fact", ["without", 0, 1, 0]], ["swap", 1, 0], ["drop", 1, 0]):
            bench.make(edit)
        log = (("step", 0, 1, (0, "any", (0,), 7)), ("fact", ("without", 0, 1, 0)), ("swap", 1, 0), ("drop", 1, 0))
        self.assertEqual(repr(bench.log), repr(log))
        self.assertEqual(repr(list(bench)), repr(list(log)))
        self.assertEqual(repr([bench.take_back() for _ in range(4)]), repr(list(log[::-1])))

    def test_an_edit_that_changes_nothing_stands_in_the_log(self):
        bench = Bench(LOT)
        for many in range(1, 4):
            self.assertEqual(bench.make(("step", 0, 0, (0, "kept", (), -1))), LOT)
            self.assertEqual(bench.make(("fact", ("kept", 0, 0))), LOT)
            self.assertEqual((len(bench), bench.current), (2 * many, LOT))

    def test_what_is_handed_in_may_be_changed_behind_the_call(self):
        bench = Bench(LOT)
        step, fact = [0, "any", [0], 7], ["without", 0, 1, 0]
        edits = [["step", 0, 1, step], ["fact", fact], ["swap", 1, 0]]
        for edit in edits:
            bench.make(edit)
        state = state_of(bench)
        step[2].append(1)
        step[0] = fact[1] = 9
        edits[2][1] = 0
        edits[0].pop()
        self.assertEqual(state_of(bench), state)
        self.assertEqual(bench.log, (("step", 0, 1, (0, "any", (0,), 7)), ("fact", ("without", 0, 1, 0)), SWAP))

    def test_what_is_returned_does_not_change(self):
        bench = Bench(LOT)
        log, current = bench.log, bench.current
        made = bench.make(DROP)
        self.assertEqual((log, current, made), ((), LOT, bench.current))
        bench.take_back()
        self.assertEqual(made.sizes, (2, 1))

    def test_nothing_made(self):
        bench = Bench(LOT)
        self.refuses(NothingMade, {}, bench.take_back)
        bench.make(SWAP)
        bench.take_back()
        self.refuses(NothingMade, {}, bench.take_back)
        self.assertEqual(state_of(bench), (LOT, (), 0, [], [LOT]))

    def test_two_benches_over_one_lot(self):
        one, other = Bench(LOT), Bench(LOT)
        one.make(DROP)
        self.assertEqual(state_of(other), (LOT, (), 0, [], [LOT]))
        other.make(SWAP)
        one.make(BLIND)
        self.assertEqual((one.log, other.log), ((DROP, BLIND), (SWAP,)))
        one.take_back()
        self.assertEqual((one.log, other.log), ((DROP,), (SWAP,)))
        self.assertEqual(LOT, lot_of_text("2: kept 0; any 0 by 0 as 0 | any 0 as 1; any 1 as 2"))


class RefusedTest(GuardCase):
    def test_refused_edits_leave_the_bench_as_it_was(self):
        bench = Bench(LOT)
        bench.make(BLIND)
        state = state_of(bench)
        for edit, what in ((None, "kind"), (("drop", 0), "kind"), (("drop", 0, True), "place"), (("swap", 0, 1), "place"),
                           (("step", 0, 0, None), "step"), (("fact", None), "fact"), (["fact", ["adds", 0, 0]], "fact"),
                           (("step", 1, 1, (1, "adds", (), 5)), "lot")):
            self.refuses(BadEdit, {"index": 0, "what": what}, bench.make, edit)
            self.assertEqual(state_of(bench), state)
        self.refuses(BadEdit, {"index": 0, "what": "goes by"}, Bench(LOT).make, ("drop", 0, 0))
        for wrong in OTHER_KINDS:
            self.refuses(BadEdit, {"index": 0, "what": "kind"}, bench.make, wrong)


class TrialTest(GuardCase):
    def test_each_goal_of_the_lot_that_comes(self):
        rng = random.Random("trial")
        seen = set()
        for lot in LOTS * 3:
            bench, made, edits = Bench(lot), lot, []
            if isinstance(plain_edit(lot, SWAP), Lot):
                made = bench.make(SWAP)
            while len(edits) < 3:
                edit = made_up_edit(rng, made)
                if isinstance(plain_edit(made, edit), Lot):
                    made = plain_edit(made, edit)
                    edits.append(edit)
            goals = [made_up_goal(rng, made) for _ in range(rng.randint(1, 4))]
            state = state_of(bench)
            found = bench.trial(in_lists(tuple(edits)), in_lists(tuple(goals)))
            self.assertEqual(repr(found), repr(tuple(plain_met(made, goal) for goal in goals)))
            self.assertEqual(bench.trial(tuple(edits), goals), found)
            self.assertEqual(state_of(bench), state)
            seen.update(found)
        self.assertEqual(seen, {True, False})

    def test_no_edits(self):
        bench = Bench(LOT)
        self.assertEqual(bench.trial((), [("lets", (0, 1, 0, 1)), ("bars", (0, 1, 0, 1))]), (False, True))
        self.assertEqual(bench.trial([BLIND], [("lets", (0, 1, 0, 1))]), (True,))
        self.assertEqual(bench.trial([DROP], [("lets", (0, 1, 0, 1)), ("lets", (0, 1, 0))]), (False, True))
        bench.make(BLIND)
        self.assertEqual(bench.trial([], [("lets", (0, 1, 0, 1))]), (True,))

    def test_which_error_comes_first(self):
        bench = Bench(blind_lot(2, 3, 2))
        bench.make(("swap", 1, 0))
        state = state_of(bench)
        bad_goals = ((None, -1), ((), -1), ([("share", (0, 0))], 0), ([("share", (1, 2)), ("lets", (3,))], 1))
        bad_edits = ((None, -1, "kind"), ([None], 0, "kind"), ([SWAP, ("drop", 3, 0)], 1, "place"),
                     ([SWAP, SWAP, ("fact", 0)], 2, "fact"))
        for goals, index in bad_goals:
            for edits, _, _ in bad_edits:
                self.refuses(BadGoal, {"index": index}, bench.trial, edits, goals)
                self.assertEqual(state_of(bench), state)
        for edits, index, what in bad_edits:
            self.refuses(BadEdit, {"index": index, "what": what}, bench.trial, edits, [("share", (1, 2))])
            self.assertEqual(state_of(bench), state)
        goals = [("lets", (0,)), ["share", [0, 1]]]
        self.refuses(TooMany, {"count": 210}, bench.trial, [SWAP], goals)
        self.assertEqual(state_of(bench), state)
        # asked of the lot that comes: 90 weavings
        self.assertEqual(bench.trial([("drop", 1, 0)], goals), (False, True))
        self.assertEqual(state_of(bench), state)

    def test_nothing_that_is_passed_in_is_changed(self):
        edits, goals = [["drop", 1, 1]], [["lets", [0, 1, 0]]]
        bench = Bench(LOT)
        bench.trial(edits, goals)
        bench.make(edits[0])
        self.assertEqual((edits, goals), ([["drop", 1, 1]], [["lets", [0, 1, 0]]]))


if __name__ == "__main__":
    unittest.main()
