"""[9.1]: edits."""

import itertools
import random
import unittest

from helper import (
    OTHER_KINDS, GuardCase, all_facts, blind_lot, in_lists, made_up_edit, made_up_lots, places_of, plain_edit,
)
from knownguards.edits import edited_lot, edited_through
from knownguards.errors import BadEdit
from knownguards.lots import Lot
from knownguards.lottexts import lot_of_text, lot_text

LOT = lot_of_text("2: kept 0; any 0 by 0 1 as 5; adds 1 by 0 as 2; any 1 by 1 3 as 7 | any 0 as 1; any 1 by 1 as 3")
LOTS = [LOT, blind_lot(1), blind_lot(1, 2), *made_up_lots(60, "edits")]


class EditedLotTest(GuardCase):
    def check(self, lot, edit):
        """The edit does just what the plain one does; returns what comes."""
        expected = plain_edit(lot, edit)
        for given in (edit, in_lists(edit)):
            with self.subTest(lot=lot_text(lot), edit=given):
                if isinstance(expected, str):
                    self.refuses(BadEdit, {"index": 0, "what": expected}, edited_lot, lot, given)
                else:
                    self.assertEqual(edited_lot(lot, given), expected)
                    self.assertIs(type(edited_lot(lot, given)), Lot)
        return expected

    def test_every_drop_and_every_swap(self):
        seen = set()
        for lot in LOTS:
            for (program, place), word in itertools.product(places_of(lot), ("drop", "swap")):
                found = self.check(lot, (word, program, place))
                seen.add((word, found if isinstance(found, str) else "made"))
        self.assertEqual(seen, {("drop", "goes by"), ("drop", "lot"), ("drop", "made"),
                                ("swap", "goes by"), ("swap", "place"), ("swap", "made")})

    def test_every_fact(self):
        seen = set()
        for lot in LOTS:
            for fact in all_facts(lot):
                found = self.check(lot, ("fact", fact))
                seen.add(found if isinstance(found, str) else "made")
        self.assertEqual(seen, {"fact", "made"})

    def test_any_edits(self):
        rng = random.Random("edits")
        seen = set()
        for lot in LOTS * 30:
            edit = made_up_edit(rng, lot)
            found = self.check(lot, edit)
            seen.add((edit[0], found if isinstance(found, str) else "made"))
        self.assertLessEqual({("step", word) for word in ("place", "lot", "made")}, seen)

    def test_a_step_replaced(self):
        self.assertEqual(lot_text(edited_lot(LOT, ("step", 0, 1, [1, "kept", [], -1]))),
                         "2: kept 0; kept 1; adds 1 by 0 as 2; any 1 by 1 3 as 7 | any 0 as 1; any 1 by 1 as 3")
        self.assertEqual(edited_lot(LOT, ("step", 1, 1, (1, "any", (0, 1), 5))).programs[1][1], (1, "any", (0, 1), 5))
        self.assertEqual(edited_lot(LOT, ("step", 0, 0, LOT.programs[0][0])), LOT)

    def test_a_step_left_out(self):
        lot = edited_lot(LOT, ("drop", 0, 2))
        self.assertEqual(lot_text(lot), "2: kept 0; any 0 by 0 1 as 5; any 1 by 1 2 as 7 | any 0 as 1; any 1 by 1 as 3")
        self.assertEqual(edited_lot(LOT, ["drop", 1, 1]), Lot(2, (LOT.programs[0], LOT.programs[1][:1])))
        self.assertEqual(lot_text(edited_lot(lot_of_text("1: any 0 by 0 as 0; any 0 by 1 as 1"), ("drop", 0, 0))),
                         "1: any 0 by 0 as 1")

    def test_two_steps_exchanged(self):
        self.assertEqual(lot_text(edited_lot(LOT, ("swap", 0, 1))),
                         "2: kept 0; adds 1 by 0 as 2; any 0 by 0 2 as 5; any 1 by 2 3 as 7 | "
                         "any 0 as 1; any 1 by 1 as 3")
        self.assertEqual(edited_lot(LOT, ("swap", 1, 0)).programs[1], ((1, "any", (0,), 3), (0, "any", (), 1)))
        both = lot_of_text("1: any 0 by 0 as 0; any 0 by 1 as 1; any 0 by 0 1 2 as 2")
        self.assertEqual(lot_text(edited_lot(both, ("swap", 0, 0))),
                         "1: any 0 by 0 as 1; any 0 by 1 as 0; any 0 by 0 1 2 as 2")

    def test_swaps_are_taken_back_by_themselves_where_they_may_be(self):
        for lot in LOTS:
            for program, place in places_of(lot):
                swap = ("swap", program, place)
                found = plain_edit(lot, swap)
                if isinstance(found, Lot):
                    back = plain_edit(found, swap)
                    self.assertEqual(edited_through(lot, [swap] * 2), lot)
                    self.assertEqual(back, lot)

    def test_names_are_not_changed(self):
        lot = lot_of_text("1: any 0 as 9; any 0 as 4 | any 0 as 9; any 0 as 2")
        self.assertEqual(lot_text(edited_lot(lot, ("drop", 0, 0))), "1: any 0 as 4 | any 0 as 9; any 0 as 2")
        self.assertEqual(lot_text(edited_lot(lot, ("swap", 1, 0))), "1: any 0 as 9; any 0 as 4 | any 0 as 2; any 0 as 9")
        self.assertEqual(lot_text(edited_lot(lot, ("fact", ("same", 0, 1, 1, 1)))),
                         "1: any 0 as 9; any 0 as 2 | any 0 as 9; any 0 as 2")


class RefusedTest(GuardCase):
    def refused(self, what, edit, lot=LOT):
        """The word is told of the edit alone, and of each place of a row where it may stand."""
        self.refuses(BadEdit, {"index": 0, "what": what}, edited_lot, lot, edit)
        good = ("swap", 1, 0)
        for at in range(4):
            edits = [good, good] * at + [edit, None]
            self.refuses(BadEdit, {"index": 2 * at, "what": what}, edited_through, lot, edits)

    def test_kinds(self):
        step = (0, "kept", (), -1)
        for wrong in (*OTHER_KINDS, 0, "step", "drop", (), [], ("drop",), ("drop", 0), ("drop", 0, 0, 0),
                      ("step", 0, 0), ("step", 0, 0, step, step), ("fact",), ("fact", "kept", 0, 0), ("swap", 0),
                      ("swap", 0, 0, 1), ("keep", 0, 0), ("Drop", 0, 0), (b"drop", 0, 0), (None, 0, 0),
                      (["drop"], 0, 0), (0, 0, 0), ("dropped", 0, 0), (("drop",), 0, 0)):
            self.refused("kind", wrong)

    def test_places(self):
        step = (0, "kept", (), -1)
        for wrong in (*OTHER_KINDS, 2, -1, (0,), "1"):
            for place in (0, None, 9):
                self.refused("place", ("drop", wrong, place))
                self.refused("place", ["swap", wrong, place])
                self.refused("place", ("step", wrong, place, None))
        for wrong in (*OTHER_KINDS, 4, -1, (0,), "1"):
            self.refused("place", ("drop", 0, wrong))
            self.refused("place", ("swap", 0, wrong))
            self.refused("place", ("step", 0, wrong, step))
        self.refused("place", ("swap", 0, 3))
        self.refused("place", ("swap", 1, 1))
        self.refused("place", ("drop", 1, 2))
        self.refused("place", ("swap", 0, 0), blind_lot(1, 2))

    def test_steps(self):
        for wrong in (*OTHER_KINDS, 0, (), (0, "kept", ()), (2, "kept", (), -1), (0, "keep", (), -1), (0, "kept", (), 0),
                      (0, "any", (2,), 0), (0, "adds", (1,), 0), (0, "any", (), 100), (0, "any", (1, 0), 0),
                      (True, "any", (), 0), (0, "any", (False,), 0)):
            self.refused("step", ("step", 0, 1, wrong))
        self.refused("step", ("step", 0, 0, (0, "any", (1,), 0)))
        self.refused("step", ("step", 0, 0, (0, "adds", (0,), 0)))

    def test_facts(self):
        for wrong in (*OTHER_KINDS, 0, "kept", (), ("kept", 0), ("kept", 2, 0), ("kept", 0, True), ("adds", 0, 0),
                      ("kept", 0, 2), ("kept", 1, 0), ("without", 0, 0, 0), ("same", 0, 0, 1, 0), ("same", 0, 1, 0, 1),
                      (("kept", 0, 1),)):
            self.refused("fact", ("fact", wrong))

    def test_goes_by(self):
        self.refused("goes by", ("drop", 0, 0))
        self.refused("goes by", ("drop", 0, 1))
        self.refused("goes by", ("swap", 0, 0))
        self.refused("goes by", ("drop", 0, 0), lot_of_text("1: kept 0; any 0 by 0 as 0 | any 0 as 1; any 0 as 1"))
        # its own going by its pocket does not count
        self.assertEqual(edited_lot(LOT, ("drop", 1, 1)).sizes, (4, 1))

    def test_lots(self):
        for lot in (blind_lot(1), blind_lot(1, 2), blind_lot(1, 2, 2)):
            self.refuses(BadEdit, {"index": 0, "what": "lot"}, edited_lot, lot, ("drop", 0, 0))
        # a name of another kind, of another number of pockets, of another cell; the pocket of an adds
        self.refused("lot", ("step", 0, 1, (0, "any", (0,), 2)))
        self.refused("lot", ("step", 1, 1, (1, "any", (), 5)))
        self.refused("lot", ("step", 1, 1, (0, "adds", (0,), 2)))
        self.refused("lot", ("step", 0, 0, (0, "adds", (), 9)))
        self.refused("lot", ("step", 0, 3, (0, "any", (2,), 9)))
        self.assertEqual(edited_lot(LOT, ("step", 1, 1, (1, "adds", (0,), 2))).programs[1][1], (1, "adds", (0,), 2))

    def test_the_first_word_that_applies(self):
        self.refused("kind", ("step", 9, 9))
        self.refused("place", ("step", 0, 4, (9, 9, 9, 9)))
        self.refused("place", ("step", 2, 0, (0, "any", (), 2)))
        self.refused("step", ("step", 0, 0, (0, "adds", (), 100)))
        self.refused("step", ("step", 0, 3, (2, "any", (2,), 5)))
        self.refused("goes by", ("drop", 0, 0))
        self.refuses(BadEdit, {"index": 0, "what": "place"}, edited_lot, blind_lot(1), ("drop", 0, 1))
        self.refuses(BadEdit, {"index": 0, "what": "place"}, edited_lot, blind_lot(1), ("swap", 0, 0))

    def test_nothing_that_is_passed_in_is_changed(self):
        edits = [["swap", 0, 1], ["drop", 1, 1], ["step", 1, 0, [0, "kept", [], -1]], ["fact", ["without", 0, 3, 2]]]
        kept = repr(edits)
        lot = Lot(2, LOT.programs)
        edited_through(lot, edits)
        self.refuses(BadEdit, {"index": 1, "what": "kind"}, edited_through, lot, edits[:1] + [None])
        self.assertEqual((repr(edits), lot), (kept, LOT))


class EditedThroughTest(GuardCase):
    def test_rows_of_none_to_forty_edits(self):
        rng = random.Random("rows")
        lengths = set()
        for lot in LOTS:
            for length in (0, 1, 2, 5, 40):
                made, edits = lot, []
                while len(edits) < length:
                    edit = made_up_edit(rng, made)
                    found = plain_edit(made, edit)
                    if isinstance(found, Lot):
                        edits.append(in_lists(edit) if rng.random() < 0.5 else edit)
                        made = found
                self.assertEqual(edited_through(lot, edits), made)
                self.assertEqual(edited_through(lot, tuple(edits)), made)
                edit = made_up_edit(rng, made)
                found = plain_edit(made, edit)
                if isinstance(found, str):
                    self.refuses(BadEdit, {"index": length, "what": found}, edited_through, lot, edits + [edit, None])
                    lengths.add(length)
        self.assertEqual(lengths, {0, 1, 2, 5, 40})

    def test_each_edit_over_the_lot_made_so_far(self):
        lot = lot_of_text("1: kept 0; any 0 by 0 as 0")
        self.refuses(BadEdit, {"index": 0, "what": "goes by"}, edited_through, lot, [("drop", 0, 0)])
        made = edited_through(lot, [("fact", ("without", 0, 1, 0)), ("drop", 0, 0)])
        self.assertEqual(lot_text(made), "1: any 0 as 0")
        self.refuses(BadEdit, {"index": 2, "what": "lot"}, edited_through, lot,
                     [("fact", ("without", 0, 1, 0)), ("drop", 0, 0), ("drop", 0, 0)])
        self.refuses(BadEdit, {"index": 2, "what": "place"}, edited_through, lot,
                     [("fact", ("without", 0, 1, 0)), ("drop", 0, 1), ("drop", 0, 1)])

    def test_no_edits(self):
        for edits in ((), []):
            self.assertEqual(edited_through(LOT, edits), LOT)

    def test_what_is_no_row(self):
        for wrong in (*OTHER_KINDS, 0, "drop", {("drop", 0, 0)}, {("drop", 0, 0): 1}):
            self.refuses(BadEdit, {"index": -1, "what": "kind"}, edited_through, LOT, wrong)
        self.refuses(BadEdit, {"index": 0, "what": "kind"}, edited_through, LOT, ("drop", 0, 0))


if __name__ == "__main__":
    unittest.main()
