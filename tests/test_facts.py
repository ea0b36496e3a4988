"""[1.7] to [1.10]: facts."""

import random
import unittest

from helper import OTHER_KINDS, GuardCase, all_facts, made_up_lots
from knownguards.errors import BadFact
from knownguards.facts import cells_floor, facts_borne, is_fact, own_facts, with_facts
from knownguards.lots import Lot
from knownguards.lottexts import lot_of_text, lot_text


def facts_of(text):
    """The facts of a text in which they stand with commas between."""
    facts = []
    for part in text.split(", ") if text else ():
        word, *numbers = part.split(" ")
        facts.append((word, *map(int, numbers)))
    return facts


class IsFactTest(GuardCase):
    lot = Lot(1, [[(0, "any", (), 0)] * 3, [(0, "any", (), 0)] * 2])

    def test_exactly_all_facts_among_many_rows(self):
        facts = all_facts(self.lot)
        numbers = range(-1, 4)
        rows = [(a, b) for a in numbers for b in numbers]
        longer = [(a, b, c) for a, b in rows for c in numbers]
        longest = [(a, b, c, d) for a, b, c in longer for d in numbers]
        for word in ("without", "kept", "adds", "same", "any", "with", ""):
            for row in [(), *[(a,) for a in numbers], *rows, *longer, *longest, (0, 0, 0, 1, 0), (0, 0, 1, 0, 0)]:
                fact = (word, *row)
                self.assertIs(is_fact(self.lot, fact), fact in facts)
                self.assertIs(is_fact(self.lot, list(fact)), fact in facts)

    def test_same_tells_the_step_that_stands_ahead_first(self):
        for fact, expected in (
            (("same", 0, 0, 0, 1), True), (("same", 0, 2, 1, 0), True), (("same", 1, 0, 1, 1), True),
            (("same", 0, 0, 0, 0), False), (("same", 0, 1, 0, 0), False), (("same", 1, 0, 0, 2), False),
        ):
            self.assertIs(is_fact(self.lot, fact), expected)

    def test_things_of_other_kinds(self):
        for thing in (*OTHER_KINDS, 0, "kept 0 0", "kept", {"kept": 0}, iter(("kept", 0, 0)), (), []):
            self.assertIs(is_fact(self.lot, thing), False)
        for wrong in (*OTHER_KINDS, "0", (0,), [0]):
            for fact in (
                (wrong, 0, 0), ("kept", wrong, 0), ("adds", 0, wrong), ("without", wrong, 1, 0),
                ("without", 0, wrong, 0), ("without", 0, 1, wrong), ("same", wrong, 0, 1, 1),
                ("same", 0, wrong, 1, 1), ("same", 0, 0, wrong, 1), ("same", 0, 0, 1, wrong),
            ):
                self.assertIs(is_fact(self.lot, fact), False)

    def test_numbers_of_any_length(self):
        self.assertIs(is_fact(self.lot, ("kept", 10 ** 5000, 0)), False)


class CellsFloorTest(GuardCase):
    def test_the_floor_has_the_cells_alone(self):
        lot = lot_of_text("3: kept 2; any 0 as 7 | adds 1 as 9; any 1 by 1 as 6; kept 0 | any 2 as 7")
        floor = "3: any 2 by 0 as 0; any 0 by 0 1 as 1 | "
        floor += "any 1 by 0 as 2; any 1 by 0 1 as 3; any 0 by 0 1 2 as 4 | any 2 by 0 as 5"
        self.assertEqual(lot_text(cells_floor(lot)), floor)

    def test_the_floor_of_a_floor_is_itself(self):
        for lot in made_up_lots(40, "floor"):
            floor = cells_floor(lot)
            self.assertEqual(cells_floor(floor), floor)
            self.assertEqual((floor.cells, floor.sizes), (lot.cells, lot.sizes))
            for steps, old_steps in zip(floor, lot):
                self.assertEqual([step[0] for step in steps], [step[0] for step in old_steps])
            self.assertEqual(own_facts(floor), ())


class WithFactsTest(GuardCase):
    def becomes(self, old, facts, new):
        with self.subTest(old, facts=facts):
            lot = lot_of_text(old)
            self.assertEqual(lot_text(with_facts(lot, facts_of(facts))), new)
            self.assertEqual(lot_text(lot), old)

    def clashes(self, old, facts, index):
        with self.subTest(old, facts=facts):
            self.refuses(BadFact, {"index": index}, with_facts, lot_of_text(old), facts_of(facts))

    def stays(self, old, facts):
        self.becomes(old, facts, old)

    three = "1: any 0 by 0 as 0; any 0 by 0 1 as 1; any 0 by 0 1 2 as 2"

    def test_without(self):
        self.becomes(self.three, "without 0 0 0", "1: any 0 as 0; any 0 by 0 1 as 1; any 0 by 0 1 2 as 2")
        self.becomes(self.three, "without 0 2 1", "1: any 0 by 0 as 0; any 0 by 0 1 as 1; any 0 by 0 2 as 2")
        self.becomes(
            self.three, "without 0 2 2, without 0 2 0", "1: any 0 by 0 as 0; any 0 by 0 1 as 1; any 0 by 1 as 2"
        )
        self.becomes("1: any 0 as 1; adds 0 by 0 as 2", "without 0 1 0", "1: any 0 as 1; adds 0 as 2")

    def test_kept(self):
        self.becomes(self.three, "kept 0 1", "1: any 0 by 0 as 0; kept 0; any 0 by 0 1 2 as 2")
        self.becomes("2: any 1 by 0 as 3 | any 0 by 0 as 4", "kept 1 0", "2: any 1 by 0 as 3 | kept 0")

    def test_adds(self):
        self.becomes(self.three, "adds 0 0", "1: adds 0 as 0; any 0 by 1 as 1; any 0 by 1 2 as 2")
        self.becomes(self.three, "adds 0 1", "1: any 0 by 0 as 0; adds 0 by 0 as 1; any 0 by 0 2 as 2")
        self.becomes(self.three, "adds 0 2", "1: any 0 by 0 as 0; any 0 by 0 1 as 1; adds 0 by 0 1 as 2")
        self.becomes(self.three, "adds 0 0, adds 0 2, adds 0 1", "1: adds 0 as 0; adds 0 as 1; adds 0 as 2")
        self.becomes(
            "1: any 0 by 0 as 5 | kept 0; any 0 by 1 as 6; adds 0 by 1 as 7", "adds 1 1",
            "1: any 0 by 0 as 5 | kept 0; adds 0 as 6; adds 0 as 7",
        )

    def test_same(self):
        two = "1: any 0 as 8 | any 0 as 3"
        self.becomes(two, "same 0 0 1 0", "1: any 0 as 3 | any 0 as 3")
        self.becomes("1: any 0 as 3 | any 0 as 8", "same 0 0 1 0", "1: any 0 as 3 | any 0 as 3")
        self.becomes("2: any 0 by 0 as 9; any 1 by 0 as 4", "same 0 0 0 1", "2: any 0 by 0 as 4; any 1 by 0 as 4")
        self.becomes("1: adds 0 as 0 | adds 0 as 5", "same 0 0 1 0", "1: adds 0 as 0 | adds 0 as 0")

    def test_same_takes_all_steps_of_both_names_along(self):
        lot = "1: any 0 as 5; any 0 as 4; any 0 as 5 | any 0 as 4; any 0 as 7 | kept 0"
        self.becomes(
            lot, "same 0 2 1 0", "1: any 0 as 4; any 0 as 4; any 0 as 4 | any 0 as 4; any 0 as 7 | kept 0"
        )
        self.becomes(
            lot, "same 0 0 1 1", "1: any 0 as 5; any 0 as 4; any 0 as 5 | any 0 as 4; any 0 as 5 | kept 0"
        )
        chain = "1: any 0 as 9 | any 0 as 8 | any 0 as 7"
        all_least = "1: any 0 as 7 | any 0 as 7 | any 0 as 7"
        self.becomes(chain, "same 0 0 1 0, same 1 0 2 0", all_least)
        self.becomes(chain, "same 0 0 2 0, same 0 0 1 0", all_least)

    def test_what_is_known_already_changes_nothing(self):
        lot = "2: kept 0; adds 1 by 0 as 3; any 0 by 0 as 4 | adds 1 as 5; any 0 by 1 as 4; any 1 as 6"
        self.stays(lot, "")
        for facts in (
            "kept 0 0", "adds 0 1", "adds 1 0", "without 0 2 1", "without 0 2 2", "without 1 1 0",
            "without 1 2 0, without 1 2 1, without 1 2 2", "same 0 2 1 1", "same 0 2 1 1, kept 0 0, adds 1 0",
        ):
            self.stays(lot, facts)

    def test_a_fact_may_come_twice(self):
        self.becomes("1: any 0 by 0 as 1", "kept 0 0, kept 0 0", "1: kept 0")
        self.becomes("1: any 0 by 0 as 1", "adds 0 0, adds 0 0, adds 0 0", "1: adds 0 as 1")
        self.becomes("1: any 0 by 0 as 1", "without 0 0 0, without 0 0 0", "1: any 0 as 1")

    def test_facts_that_do_not_go_with_what_the_step_is(self):
        self.clashes("1: adds 0 as 1", "kept 0 0", 0)
        self.clashes("1: kept 0", "adds 0 0", 0)
        self.clashes("1: any 0 as 1", "kept 0 0", 0)
        self.clashes("1: any 0 as 1", "adds 0 0", 0)
        self.clashes("1: any 0 by 0 as 1; any 0 by 0 as 2", "kept 0 1", 0)
        self.clashes("1: any 0 by 0 as 1; any 0 by 0 as 2", "adds 0 1", 0)
        self.clashes("1: kept 0", "without 0 0 0", 0)
        self.clashes("1: adds 0 as 1", "without 0 0 0", 0)
        self.clashes("1: kept 0; adds 0 by 0 as 1", "without 0 1 0, without 0 1 1", 1)
        self.clashes("1: kept 0; kept 0", "without 0 1 0, without 0 1 1", 1)

    def test_facts_that_do_not_go_with_facts_ahead_of_them(self):
        one = "1: any 0 by 0 as 1"
        for facts in (
            "kept 0 0, adds 0 0", "adds 0 0, kept 0 0", "without 0 0 0, kept 0 0", "without 0 0 0, adds 0 0",
            "kept 0 0, without 0 0 0", "adds 0 0, without 0 0 0",
        ):
            self.clashes(one, facts, 1)
        self.clashes(self.three, "kept 0 0, adds 0 1, without 0 2 2, kept 0 2, kept 0 1", 3)
        self.clashes(self.three, "kept 0 0, adds 0 1, without 0 2 0, kept 0 2, kept 0 1", 4)

    def test_a_shared_name_bars_a_change(self):
        two = "1: any 0 by 0 as 1; any 0 by 0 1 as 3 | any 0 by 0 as 1"
        for facts in ("kept 0 0", "kept 1 0", "adds 0 0", "adds 1 0", "without 0 0 0", "without 1 0 0"):
            self.clashes(two, facts, 0)
            self.clashes(two, "kept 0 1, " + facts, 1)
        self.becomes(two, "without 0 1 0", "1: any 0 by 0 as 1; any 0 by 1 as 3 | any 0 by 0 as 1")
        self.clashes("1: any 0 as 1; any 0 by 0 as 2; any 0 by 0 as 2", "without 0 2 0", 0)

    def test_an_adds_may_change_other_steps_of_a_shared_name(self):
        shared = "1: any 0 by 0 as 1; any 0 by 0 1 as 2 | kept 0; any 0 by 0 1 as 2"
        self.clashes(shared, "adds 0 0", 0)
        both_change = "1: any 0 by 0 as 1; any 0 by 0 as 2; any 0 by 0 as 2"
        self.clashes(both_change, "adds 0 0", 0)
        untouched = "1: any 0 by 0 as 1; any 0 by 1 as 2 | kept 0; any 0 by 1 as 2"
        self.becomes(untouched, "adds 0 0", "1: adds 0 as 1; any 0 by 1 as 2 | kept 0; any 0 by 1 as 2")

    def test_kept_steps_share_no_name(self):
        self.becomes("1: kept 0; any 0 by 0 1 as 1; kept 0", "kept 0 1", "1: kept 0; kept 0; kept 0")
        self.becomes("1: kept 0; any 0 by 0 1 as 1; kept 0", "adds 0 1", "1: kept 0; adds 0 by 0 as 1; kept 0")

    def test_same_counts_only_behind_all_others(self):
        two = "1: any 0 by 0 as 1 | any 0 by 0 as 2"
        for facts in (
            "same 0 0 1 0, without 0 0 0, without 1 0 0", "without 0 0 0, same 0 0 1 0, without 1 0 0",
            "without 0 0 0, without 1 0 0, same 0 0 1 0",
        ):
            self.becomes(two, facts, "1: any 0 as 1 | any 0 as 1")
        self.becomes(two, "same 0 0 1 0, adds 0 0, adds 1 0", "1: adds 0 as 1 | adds 0 as 1")
        self.clashes(two, "same 0 0 1 0, without 1 0 0", 0)
        self.clashes(two, "kept 0 0, kept 1 0, same 0 0 1 0", 2)

    def test_same_that_cannot_be(self):
        self.clashes("1: any 0 as 1 | any 0 by 0 as 2", "same 0 0 1 0", 0)
        self.clashes("1: any 0 as 1 | adds 0 as 2", "same 0 0 1 0", 0)
        self.clashes("2: adds 0 as 1 | adds 1 as 2", "same 0 0 1 0", 0)
        self.clashes("1: kept 0 | any 0 as 2", "same 0 0 1 0", 0)
        self.clashes("1: any 0 as 2 | kept 0", "same 0 0 1 0", 0)
        self.clashes("1: kept 0 | kept 0", "same 0 0 1 0", 0)
        self.clashes("1: any 0 as 1 | any 0 as 2 | kept 0", "same 0 0 1 0, same 0 0 2 0, same 1 0 2 0", 1)

    def test_which_index_is_told(self):
        two = "1: any 0 by 0 as 1 | any 0 as 2"
        self.clashes(two, "same 0 0 1 0, kept 1 0", 1)
        self.clashes(two, "same 0 0 1 0, kept 0 0, kept 1 0, adds 0 0", 2)
        self.clashes(two, "kept 1 0, same 0 0 1 0, kept 0 2", 2)
        self.clashes(two, "kept 0 1, kept 1 0", 0)
        self.clashes(two, "same 0 0 1 0, kept 1 0, same 1 0 0 0", 2)

    def test_no_sequence_or_too_many(self):
        lot = lot_of_text("1: any 0 by 0 as 1")
        for facts in (*OTHER_KINDS, 0, "kept 0 0", {}, [("kept", 0, 0)] * 41, (None,) * 41):
            for call in (with_facts, facts_borne):
                self.refuses(BadFact, {"index": -1}, call, lot, facts)
        self.assertEqual(lot_text(with_facts(lot, [("kept", 0, 0)] * 40)), "1: kept 0")
        self.assertEqual(lot_text(with_facts(lot, (["kept", 0, 0],) * 40)), "1: kept 0")

    def test_what_is_no_fact(self):
        lot = lot_of_text("1: any 0 by 0 as 1 | kept 0")
        for wrong in (*OTHER_KINDS, (), ("kept", 0, 1), ("kept", 2, 0), ("kept", True, 0), ("same", 1, 0, 0, 0)):
            for call in (with_facts, facts_borne):
                self.refuses(BadFact, {"index": 0}, call, lot, (wrong, wrong))
                self.refuses(BadFact, {"index": 2}, call, lot, [("kept", 1, 0), ("adds", 1, 0), wrong])
                self.refuses(BadFact, {"index": 1}, call, lot, [["kept", 1, 0], wrong, ["adds", 1, 0], wrong])

    def test_lists_are_taken_and_not_changed(self):
        lot = lot_of_text("1: any 0 by 0 as 2 | any 0 by 0 as 1")
        facts = [["same", 0, 0, 1, 0], ["adds", 0, 0], ["adds", 1, 0]]
        self.assertEqual(lot_text(with_facts(lot, facts)), "1: adds 0 as 1 | adds 0 as 1")
        self.assertEqual(facts, [["same", 0, 0, 1, 0], ["adds", 0, 0], ["adds", 1, 0]])


class OwnFactsTest(GuardCase):
    def own(self, text, facts):
        with self.subTest(text):
            self.assertEqual(own_facts(lot_of_text(text)), tuple(facts_of(facts)))

    def test_each_kind(self):
        self.own("1: any 0 by 0 as 1", "")
        self.own("1: any 0 as 1", "without 0 0 0")
        self.own("1: kept 0", "kept 0 0")
        self.own("1: adds 0 as 1", "adds 0 0")
        self.own("1: any 0 by 0 as 1; any 0 by 0 as 1", "same 0 0 0 1, without 0 1 1")
        self.own("1: any 0 by 0 as 1; adds 0 by 0 as 2", "adds 0 1")
        self.own("1: any 0 by 0 as 1; adds 0 as 2; kept 0; any 0 by 3 as 4",
                 "adds 0 1, kept 0 2, without 0 1 0, without 0 3 0, without 0 3 2")

    def test_same_is_told_of_the_first_step_of_a_name(self):
        self.own(
            "1: any 0 by 0 as 5; kept 0 | any 0 by 0 as 5; kept 0 | any 0 by 0 as 5",
            "kept 0 1, kept 1 1, same 0 0 1 0, same 0 0 2 0",
        )

    def test_ascending(self):
        self.own(
            "2: any 0 as 3; adds 1 as 4 | any 1 as 3; kept 0",
            "adds 0 1, kept 1 1, same 0 0 1 0, without 0 0 0, without 0 1 0, without 1 0 0",
        )

    def test_the_own_facts_make_the_lot_out_of_its_floor(self):
        for lot in made_up_lots(1500, "own facts"):
            facts = own_facts(lot)
            self.assertEqual(list(facts), sorted(set(facts)))
            self.assertTrue(all(is_fact(lot, fact) for fact in facts))
            self.assertEqual(with_facts(cells_floor(lot), facts).renamed(), lot.renamed())
            self.assertIs(facts_borne(lot, facts), None)
            self.assertEqual(with_facts(lot, facts), lot)

    def test_none_of_the_own_facts_can_be_left_out_where_no_other_tells_it(self):
        lot = lot_of_text("1: any 0 by 0 as 1; kept 0 | any 0 as 2; adds 0 by 0 as 3")
        facts = own_facts(lot)
        for fact in facts:
            fewer = [other for other in facts if other != fact]
            self.assertNotEqual(with_facts(cells_floor(lot), fewer).renamed(), lot.renamed())


class FactsBorneTest(GuardCase):
    text = "2: kept 0; adds 1 by 0 as 3; any 0 by 0 as 4 | adds 1 as 5; any 0 by 1 as 4; any 1 as 6"

    def test_each_fact_alone(self):
        lot = lot_of_text(self.text)
        borne = facts_of(
            "kept 0 0, adds 0 1, adds 1 0, same 0 2 1 1, without 0 2 1, without 0 2 2, without 1 1 0, "
            "without 1 2 0, without 1 2 1, without 1 2 2"
        )
        for fact in all_facts(lot):
            with self.subTest(fact):
                self.assertEqual(facts_borne(lot, [fact]), None if fact in borne else 0)
                self.assertEqual(facts_borne(lot, (list(fact),)), None if fact in borne else 0)

    def test_without_of_an_earlier_place_of_a_kept_step_is_borne_out(self):
        lot = lot_of_text("1: kept 0; kept 0; adds 0 by 1 as 1")
        self.assertIs(facts_borne(lot, facts_of("without 0 1 0, without 0 2 0")), None)
        self.assertEqual(facts_borne(lot, facts_of("without 0 1 0, without 0 2 1")), 1)

    def test_same_of_kept_steps_is_not_borne_out(self):
        self.assertEqual(facts_borne(lot_of_text("1: kept 0 | kept 0"), [("same", 0, 0, 1, 0)]), 0)

    def test_the_first_that_is_not_borne_out(self):
        lot = lot_of_text(self.text)
        self.assertIs(facts_borne(lot, ()), None)
        self.assertEqual(facts_borne(lot, facts_of("kept 0 0, adds 0 1, kept 0 1, adds 0 0")), 2)
        self.assertEqual(facts_borne(lot, facts_of("adds 0 0, kept 0 0, adds 0 0")), 0)

    def test_all_forms_are_looked_at_first(self):
        lot = lot_of_text(self.text)
        self.refuses(BadFact, {"index": 1}, facts_borne, lot, (("adds", 0, 0), ("adds", 0, 3)))
        self.refuses(BadFact, {"index": 39}, facts_borne, lot, (("adds", 0, 0),) * 39 + (None,))
        self.refuses(BadFact, {"index": -1}, facts_borne, lot, (("adds", 0, 0),) * 41)
        self.assertEqual(facts_borne(lot, (("kept", 0, 0),) * 39 + (("adds", 0, 0),)), 39)

    def test_facts_borne_out_are_exactly_those_that_change_nothing(self):
        rng = random.Random("borne")
        seen = {True: 0, False: 0}
        for lot in made_up_lots(1500, "borne"):
            facts = all_facts(lot)
            borne = [fact for fact in facts if facts_borne(lot, [fact]) is None]
            some = rng.choices(borne, k=rng.randint(0, 6)) if borne else []
            if rng.random() < 0.5:
                some.insert(rng.randint(0, len(some)), rng.choice(facts))
            try:
                equal = with_facts(lot, some) == lot
            except BadFact:
                equal = False
            self.assertEqual(equal, facts_borne(lot, some) is None)
            seen[equal] += 1
        self.assertGreater(min(seen.values()), 300)


if __name__ == "__main__":
    unittest.main()
