"""[1.1]: check_step."""

from itertools import combinations, product
import unittest

from helper import OTHER_KINDS, GuardCase
from knownguards.errors import BadStep
from knownguards.steps import check_step


def ascending_places(highest):
    """All ascending tuples of unlike places from 0 to highest."""
    places = range(highest + 1)
    return [some for many in range(highest + 2) for some in combinations(places, many)]


class StepsTest(GuardCase):
    def bad(self, what, step, cells=2, place=2):
        with self.subTest(step=repr(step), cells=cells, place=place):
            self.refuses(BadStep, {"what": what}, check_step, step, cells, place)

    def test_any_goes_by_places_up_to_its_own(self):
        for place in range(4):
            for goes_by in ascending_places(place):
                step = (0, "any", goes_by, 7)
                self.assertEqual(check_step(step, 1, place), step)

    def test_adds_goes_by_places_below_its_own(self):
        for place in range(4):
            for goes_by in ascending_places(place - 1):
                step = (0, "adds", goes_by, 7)
                self.assertEqual(check_step(step, 1, place), step)

    def test_kept_goes_by_nothing(self):
        for place in range(4):
            self.assertEqual(check_step((0, "kept", (), -1), 1, place), (0, "kept", (), -1))

    def test_each_cell_of_the_lot_is_taken(self):
        for cells in (1, 2, 3):
            for cell in range(cells):
                self.assertEqual(check_step((cell, "any", (), 0), cells, 0), (cell, "any", (), 0))
            for cell in (-1, cells, 100):
                self.bad("cell", (cell, "any", (), 0), cells, 0)

    def test_names_0_and_99_are_taken(self):
        for kind in ("any", "adds"):
            for name in (0, 1, 98, 99):
                self.assertEqual(check_step((0, kind, (), name), 1, 0), (0, kind, (), name))

    def test_lists_are_returned_as_tuples(self):
        step = [1, "any", [0, 2], 5]
        checked = check_step(step, 2, 2)
        self.assertEqual(checked, (1, "any", (0, 2), 5))
        self.assertIsInstance(checked[2], tuple)
        self.assertEqual(check_step((0, "kept", [], -1), 1, 0), (0, "kept", (), -1))

    def test_a_list_is_not_changed_and_may_change_later(self):
        goes_by = [0, 1]
        step = [1, "adds", goes_by, 5]
        checked = check_step(step, 2, 2)
        self.assertEqual(step, [1, "adds", [0, 1], 5])
        self.assertIs(step[2], goes_by)
        goes_by.append(2)
        step.append(3)
        self.assertEqual(checked, (1, "adds", (0, 1), 5))

    def test_form(self):
        for step in ((), (0,), (0, "any"), (0, "any", ()), (0, "any", (), 0, 0), [0, "any", ()], 0, -1, "any0"):
            self.bad("form", step)
        for step in (*OTHER_KINDS, {0: 0, 1: "any", 2: (), 3: 0}, "0123", iter((0, "any", (), 0))):
            self.bad("form", step)

    def test_cell(self):
        for cell in (*OTHER_KINDS, -1, 2, 3, (0,), [0]):
            self.bad("cell", (cell, "any", (), 0))
            self.bad("cell", [cell, "kept", [], -1])

    def test_kind(self):
        for kind in (*OTHER_KINDS, "", "Any", "any ", "keep", "add", "same", 0, ("any",), ["any"], b"any"):
            self.bad("kind", (0, kind, (), 0))

    def test_goes_by(self):
        for goes_by in (*OTHER_KINDS, 0, "", "01", {0}, {0: 0}):
            self.bad("goes by", (0, "any", goes_by, 0))
            self.bad("goes by", (0, "adds", goes_by, 0))
            self.bad("goes by", (0, "kept", goes_by, -1))
        for wrong in (*OTHER_KINDS, -1, 3, (0,)):
            for goes_by in ((wrong,), [wrong, 1], (0, wrong), (0, wrong, 2), (0, 1, wrong)):
                self.bad("goes by", (0, "any", goes_by, 0))

    def test_goes_by_that_is_not_ascending_or_not_unlike(self):
        for goes_by in ((1, 0), (0, 0), (2, 1), (0, 2, 1), (0, 1, 1), (1, 1, 2), (2, 0, 1), [2, 2]):
            self.bad("goes by", (0, "any", goes_by, 0))

    def test_goes_by_that_the_kind_does_not_allow_at_the_place(self):
        for place in range(4):
            self.bad("goes by", (0, "any", (place + 1,), 0), 1, place)
            self.bad("goes by", (0, "any", (*range(place + 2),), 0), 1, place)
            self.bad("goes by", (0, "adds", (place,), 0), 1, place)
            self.bad("goes by", (0, "adds", (*range(place + 1),), 0), 1, place)
            self.bad("goes by", (0, "kept", (0,), -1), 1, place)
            self.bad("goes by", (0, "kept", (place,), -1), 1, place)

    def test_name(self):
        for name in (*OTHER_KINDS, (0,)):
            for kind in ("any", "kept", "adds"):
                self.bad("name", (0, kind, (), name))
        for name in (-1, -2, 100, 1000):
            self.bad("name", (0, "any", (), name))
            self.bad("name", (0, "adds", (), name))
        for name in (0, 1, 99, -2, -1.0):
            self.bad("name", (0, "kept", (), name))

    def test_the_first_word_that_applies(self):
        good = (0, "any", (0,), 1)
        wrong = (5, "none", (9,), 500)
        words = ("cell", "kind", "goes by", "name")
        for chosen in product((False, True), repeat=4):
            step = [bad if take else right for take, bad, right in zip(chosen, wrong, good)]
            if any(chosen):
                self.bad(words[chosen.index(True)], step)
            self.bad("form", step[:3])
            self.bad("form", [*step, 0])


if __name__ == "__main__":
    unittest.main()
