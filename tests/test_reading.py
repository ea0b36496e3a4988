"""[5.4], [2.7]: free worths, read in a meaning."""

import random
import unittest

from helper import OTHER_KINDS, GuardCase, made_up_lots, made_up_meaning, plain_moments, plain_stores, row_steps
from knownguards.errors import BadMeaning, BadStore
from knownguards.lottexts import lot_of_text
from knownguards.meanings import Meaning, run_moments, run_weaving, run_wholes
from knownguards.outcomes import outcome_of, outcome_of_wholes, pockets_of, store_moments
from knownguards.reading import read_store, read_worth
from knownguards.weavings import all_weavings
from knownguards.worths import added_worth, begun_store, made_worth

B0, B1, B2 = begun_store(3)
LOT = lot_of_text("2: kept 0; any 0 by 0 1 as 7; adds 1 by 0 as 3 | any 1 as 5; any 0 by 0 as 2")
MEANING = Meaning(3, ((2, (1, 0, 2)), (3, (0, 1, 2)), (5, (1,)), (7, (0, 1, 2, 1, 2, 0, 2, 2, 1))))


class ReadTest(GuardCase):
    def test_begun_made_and_added_worths(self):
        store = (2, 1)
        for worth, read in (
            (B0, 2), (B1, 1), (made_worth(5, ()), 1), (made_worth(2, (B0,)), 2), (made_worth(2, (B1,)), 0),
            (made_worth(7, (B0, B1)), 2), (made_worth(7, (B1, B0)), 0), (made_worth(7, (B0, B0)), 1),
            (added_worth(B1, 3, (B0,)), 0), (added_worth(added_worth(B1, 3, (B0,)), 3, (B0,)), 2),
            (added_worth(made_worth(5, ()), 3, (B0,)), 0), (made_worth(2, (added_worth(B1, 3, (B0,)),)), 1),
        ):
            self.assertEqual(read_worth(LOT, MEANING, worth, store), read)
            self.assertEqual(read_worth(LOT, MEANING, worth, list(store)), read)
            self.assertEqual(read_store(LOT, MEANING, (worth, B0), store), (read, 2))
            self.assertEqual(read_store(LOT, MEANING, [B1, worth], list(store)), (1, read))

    def test_every_moment_and_pocket(self):
        rng = random.Random("reading")
        for lot in made_up_lots(60, "reading"):
            for modulus in (2, 3):
                meaning = made_up_meaning(rng, lot, modulus)
                weaving = rng.choice(all_weavings(lot))
                stores = plain_stores(lot, modulus)
                for store in rng.sample(stores, min(len(stores), 4)):
                    moments = plain_moments(lot, modulus, dict(meaning.tables), weaving, store)
                    read = tuple(read_store(lot, meaning, worths, store) for worths in store_moments(lot, weaving))
                    self.assertEqual(read, moments)
                    self.assertEqual(read, run_moments(lot, meaning, weaving, store))
                    for program, row in enumerate(pockets_of(lot, weaving)):
                        at = [index for index, item in enumerate(weaving) if item == program]
                        looks = [moments[index][lot.programs[program][k][0]] for k, index in enumerate(at)]
                        self.assertEqual([read_worth(lot, meaning, worth, store) for worth in row], looks)

    def test_outcomes_of_weavings_and_rows_are_what_runs_end_in(self):
        rng = random.Random("ends")
        for lot in made_up_lots(60, "ends"):
            for modulus in (2, 3):
                meaning = made_up_meaning(rng, lot, modulus)
                row = [rng.randrange(len(lot)) for _ in range(rng.randrange(1 + 14 // max(lot.sizes)))]
                of_row = outcome_of_wholes(lot, row)
                weaving = rng.choice(all_weavings(lot))
                of_weaving = outcome_of(lot, weaving)
                for store in plain_stores(lot, modulus):
                    end = plain_moments(lot, modulus, dict(meaning.tables), row_steps(lot, row), store)[-1]
                    self.assertEqual(read_store(lot, meaning, of_row, store), end)
                    self.assertEqual(run_wholes(lot, meaning, row, store), end)
                    self.assertEqual(
                        read_store(lot, meaning, of_weaving, store), run_weaving(lot, meaning, weaving, store)
                    )

    def test_many_levels(self):
        lot = lot_of_text("1: any 0 by 0 as 1; any 0 by 0 1 as 2; any 0 by 0 1 2 as 3; any 0 by 0 1 2 3 as 4 | adds 0 as 5")
        rng = random.Random("levels")
        for modulus in (2, 3):
            meaning = made_up_meaning(rng, lot, modulus)
            outcome = outcome_of_wholes(lot, (0, 1, 0, 1, 0))
            for store in plain_stores(lot, modulus):
                self.assertEqual(
                    read_store(lot, meaning, outcome, store), run_wholes(lot, meaning, (0, 1, 0, 1, 0), store)
                )


class ErrorsTest(GuardCase):
    def test_bad_meanings_come_first(self):
        for call, worths in ((read_worth, B0), (read_store, (B0, B1))):
            self.refuses(BadMeaning, {"what": "name"}, call, LOT, Meaning(2, ()), worths, None)
            self.refuses(BadMeaning, {"what": "table"}, call, LOT, Meaning(2, ((7, (0,)),)), worths, (0, 9))

    def test_bad_stores(self):
        for call, worths in ((read_worth, B0), (read_store, (B0, B1))):
            for wrong in (*OTHER_KINDS, 0, "00", (), (0,), (0, 0, 0), (0, 3), (-1, 0), (0, True), [False, 0], (0, 1.0)):
                self.refuses(BadStore, {}, call, LOT, MEANING, worths, wrong)

    def test_nothing_that_is_passed_in_is_changed(self):
        store, worths = [2, 1], [B0, added_worth(B1, 3, (B0,))]
        read_store(LOT, MEANING, worths, store)
        read_worth(LOT, MEANING, worths[1], store)
        self.assertEqual((store, worths), ([2, 1], [B0, added_worth(B1, 3, (B0,))]))


if __name__ == "__main__":
    unittest.main()
