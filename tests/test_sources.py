"""[8.1], [8.2]: looks that count, and sources."""

import unittest

from helper import OTHER_KINDS, GuardCase, blind_lot, made_up_lots, places_of
from knownguards.errors import BadWeaving, NoProgram, NoStep
from knownguards.lottexts import lot_of_text
from knownguards.sources import counted_looks, find_sources, last_sources
from knownguards.weavings import all_weavings

EXAMPLE = lot_of_text("2: kept 0; any 0 by 0 as 0 | any 0 as 1; any 1 as 2")
ADDS = lot_of_text("2: adds 0 as 0; kept 0; adds 0 by 1 as 1 | any 0 as 2; adds 0 as 0 | kept 1; any 0 by 0 1 as 3")
LOTS = [EXAMPLE, ADDS, blind_lot(3), blind_lot(2, 2, 2), *made_up_lots(200, "sources")]


def plain_sources(lot, weaving):
    """The sources of each step, and those left on each cell, by going through the weaving once."""
    left = {cell: set() for cell in range(lot.cells)}
    found, done = {}, [0] * len(lot)
    for program in weaving:
        step = program, done[program]
        cell, kind, _, _ = lot.programs[program][step[1]]
        done[program] += 1
        found[step] = tuple(sorted(left[cell]))
        if kind == "any":
            left[cell] = {step}
        if kind == "adds":
            left[cell] = left[cell] | {step}
    return found, tuple(tuple(sorted(left[cell])) for cell in range(lot.cells))


class CountedLooksTest(GuardCase):
    def test_looks_that_some_step_goes_by(self):
        for lot in LOTS:
            expected = tuple(
                (program, place) for program, place in places_of(lot)
                if any(place in step[2] for step in lot.programs[program])
            )
            self.assertEqual(counted_looks(lot), expected)
            self.assertTrue(all(lot.programs[program][place][1] != "adds" for program, place in expected))

    def test_own_pockets_later_steps_and_none(self):
        self.assertEqual(counted_looks(EXAMPLE), ((0, 0),))
        self.assertEqual(counted_looks(ADDS), ((0, 1), (2, 0), (2, 1)))
        self.assertEqual(counted_looks(blind_lot(2, 2)), ())
        self.assertEqual(counted_looks(lot_of_text("1: kept 0; any 0 by 1 as 0 | kept 0")), ((0, 1),))


class SourcesTest(GuardCase):
    def test_every_step_of_every_weaving(self):
        for lot in LOTS:
            for weaving in all_weavings(lot)[::1 if lot.total < 6 else 5]:
                found, left = plain_sources(lot, weaving)
                for program, place in places_of(lot):
                    self.assertEqual(find_sources(lot, list(weaving), program, place), found[(program, place)])
                self.assertEqual(last_sources(lot, list(weaving)), left)

    def test_the_last_any_and_the_adds_behind_it(self):
        weaving = (0, 1, 1, 2, 0, 0, 2)
        self.assertEqual(find_sources(ADDS, weaving, 0, 0), ())
        self.assertEqual(find_sources(ADDS, weaving, 1, 0), ((0, 0),))
        self.assertEqual(find_sources(ADDS, weaving, 1, 1), ((1, 0),))
        self.assertEqual(find_sources(ADDS, weaving, 0, 1), ((1, 0), (1, 1)))
        self.assertEqual(find_sources(ADDS, weaving, 2, 0), ())
        self.assertEqual(find_sources(ADDS, weaving, 2, 1), ((0, 2), (1, 0), (1, 1)))
        self.assertEqual(last_sources(ADDS, weaving), (((2, 1),), ()))
        self.assertEqual(last_sources(ADDS, (2, 2, 1, 0, 0, 0, 1)), (((0, 0), (0, 2), (1, 0), (1, 1)), ()))
        self.assertEqual(find_sources(ADDS, (0, 0, 0, 2, 2, 1, 1), 2, 1), ((0, 0), (0, 2)))

    def test_the_example_of_the_document(self):
        self.assertEqual(find_sources(EXAMPLE, (1, 0, 0, 1), 0, 0), ((1, 0),))
        self.assertEqual(find_sources(EXAMPLE, (0, 0, 1, 1), 0, 0), ())


class ErrorsTest(GuardCase):
    def test_bad_weavings_come_first(self):
        for wrong in (*OTHER_KINDS, 0, "0011", (0, 0, 1, 2), (0, 0, 1, True)):
            self.refuses(BadWeaving, {"what": "form"}, find_sources, EXAMPLE, wrong, None, None)
            self.refuses(BadWeaving, {"what": "form"}, last_sources, EXAMPLE, wrong)
        for wrong in ((), (0, 0, 1), [0, 0, 1, 1, 1], (0, 0, 0, 1)):
            self.refuses(BadWeaving, {"what": "length"}, find_sources, EXAMPLE, wrong, 2, 0)
            self.refuses(BadWeaving, {"what": "length"}, last_sources, EXAMPLE, wrong)

    def test_programs_then_places(self):
        for wrong in (*OTHER_KINDS, 2, -1, (0,)):
            self.refuses(NoProgram, {"program": wrong}, find_sources, EXAMPLE, [0, 0, 1, 1], wrong, None)
            self.refuses(NoStep, {"program": 1, "place": wrong}, find_sources, EXAMPLE, [0, 0, 1, 1], 1, wrong)

    def test_nothing_that_is_passed_in_is_changed(self):
        weaving = [1, 0, 0, 1]
        find_sources(EXAMPLE, weaving, 0, 0)
        last_sources(EXAMPLE, weaving)
        self.assertEqual(weaving, [1, 0, 0, 1])
        self.assertEqual(EXAMPLE, lot_of_text("2: kept 0; any 0 by 0 as 0 | any 0 as 1; any 1 as 2"))


if __name__ == "__main__":
    unittest.main()
