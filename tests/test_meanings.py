"""[5.1] to [5.3]: meanings."""

import itertools
import random
import unittest

from helper import (
    OTHER_KINDS, GuardCase, made_up_lots, made_up_meaning, plain_moments, plain_stores, row_steps,
)
from knownguards.errors import BadMeaning, BadRow, BadStore, BadWeaving, NoProgram
from knownguards.lottexts import lot_of_text
from knownguards.meanings import (
    Meaning, all_stores, check_meaning, check_store, run_moments, run_program, run_weaving, run_wholes,
)
from knownguards.weavings import all_weavings

LOT = lot_of_text("2: kept 0; any 0 by 0 1 as 7; adds 1 by 0 as 3 | any 1 as 5; any 0 by 0 as 2")
TABLES = ((2, (1, 0)), (3, (0, 1)), (5, (1,)), (7, (0, 1, 1, 0)))
MEANING = Meaning(2, TABLES)
WEAVING = (0, 1, 0, 1, 0)


class MakeTest(GuardCase):
    def test_attributes(self):
        for tables in (TABLES, TABLES[::-1], list(TABLES), [[name, list(table)] for name, table in TABLES[::-1]]):
            meaning = Meaning(2, tables)
            self.assertEqual((meaning.modulus, meaning.tables), (2, TABLES))
            self.assertEqual(repr(meaning.tables), repr(TABLES))
        self.assertEqual((Meaning(3, ()).modulus, Meaning(3, []).tables), (3, ()))

    def test_tables_of_no_pocket_to_four_pockets(self):
        for modulus in (2, 3):
            for pockets in range(5):
                table = tuple(entry % modulus for entry in range(modulus ** pockets))
                self.assertEqual(Meaning(modulus, ((99, table),)).tables, ((99, table),))
                self.assertEqual(Meaning(modulus, [[0, list(table)]]).table_of(0), table)

    def test_table_of(self):
        for name in range(100):
            self.assertEqual(MEANING.table_of(name), dict(TABLES).get(name))
        self.assertIsNone(Meaning(2, ()).table_of(0))
        self.assertIs(type(Meaning(2, [[1, [0]]]).table_of(1)), tuple)

    def test_equal_exactly_if_both_are(self):
        self.assertEqual(MEANING, Meaning(2, list(TABLES[::-1])))
        self.assertTrue(MEANING != Meaning(2, TABLES[1:]))
        self.assertFalse(Meaning(2, ((0, (1,)),)) == Meaning(3, ((0, (1,)),)))
        self.assertFalse(Meaning(2, ((0, (1,)),)) == Meaning(2, ((0, (0,)),)))
        self.assertFalse(Meaning(2, ((0, (1,)),)) == Meaning(2, ((1, (1,)),)))
        for other in (*OTHER_KINDS, TABLES, (2, TABLES), LOT):
            self.assertFalse(MEANING == other)

    def test_later_changes_have_no_effect(self):
        table = [0, 1]
        couple = [4, table]
        tables = [couple]
        meaning = Meaning(2, tables)
        self.assertEqual(tables, [[4, [0, 1]]])
        table[0] = 1
        couple[0] = 9
        tables.clear()
        self.assertEqual((meaning.tables, meaning.table_of(4), meaning.table_of(9)), (((4, (0, 1)),), (0, 1), None))

    def test_modulus(self):
        for wrong in (*OTHER_KINDS, -2, 0, 1, 4, "2", (2,), 2.0, 3.0):
            self.refuses(BadMeaning, {"what": "modulus"}, Meaning, wrong, TABLES)
            self.refuses(BadMeaning, {"what": "modulus"}, Meaning, wrong, None)

    def test_tables(self):
        for wrong in (*OTHER_KINDS, 0, "", "tables", dict(TABLES)):
            self.refuses(BadMeaning, {"what": "tables"}, Meaning, 2, wrong)

    def test_name(self):
        for wrong in (*OTHER_KINDS, 0, "ab", (), (1,), (1, (0,), 0), [1], {1: 0, 2: 0}):
            self.refuses(BadMeaning, {"what": "name"}, Meaning, 2, (wrong,))
            self.refuses(BadMeaning, {"what": "name"}, Meaning, 2, [(1, (0,)), wrong, (2, None)])
        for wrong in (*OTHER_KINDS, -1, 100, "1", (1,), [1], {}):
            self.refuses(BadMeaning, {"what": "name"}, Meaning, 2, ((wrong, (0,)),))
            self.refuses(BadMeaning, {"what": "name"}, Meaning, 3, [(1, (0,)), [wrong, None]])
        self.refuses(BadMeaning, {"what": "name"}, Meaning, 2, ((1, (0,)), (1, (0,))))
        self.refuses(BadMeaning, {"what": "name"}, Meaning, 2, ((1, (0,)), (2, (0,)), [1, None]))

    def test_table(self):
        for wrong in (*OTHER_KINDS, 0, "0", "01", (), (0,) * 3, (0,) * 5, (0,) * 32, {0: 0, 1: 0}):
            self.refuses(BadMeaning, {"what": "table"}, Meaning, 2, ((1, wrong),))
            self.refuses(BadMeaning, {"what": "table"}, Meaning, 2, [(1, (0,)), (0, wrong), (1, (0,))])
        for wrong in ((0,) * 2, (0,) * 4, (0,) * 8, (0,) * 243):
            self.refuses(BadMeaning, {"what": "table"}, Meaning, 3, ((1, wrong),))
        for wrong in (*OTHER_KINDS, -1, 2, "0", (0,)):
            for table in ((wrong,), [0, wrong], (wrong, 0, 1, 0), [0] * 15 + [wrong]):
                self.refuses(BadMeaning, {"what": "table"}, Meaning, 2, ((1, table),))
        self.assertEqual(Meaning(3, ((1, (2,)),)).tables, ((1, (2,)),))
        self.refuses(BadMeaning, {"what": "table"}, Meaning, 3, ((1, (3,)),))

    def test_couple_by_couple(self):
        good, bad_name, bad_table = (1, (0,)), (100, (0,)), (2, (0, 0, 0))
        self.refuses(BadMeaning, {"what": "name"}, Meaning, 2, (good, bad_name, bad_table))
        self.refuses(BadMeaning, {"what": "table"}, Meaning, 2, (good, bad_table, bad_name))
        self.refuses(BadMeaning, {"what": "name"}, Meaning, 2, (good, (100, (0, 0, 0))))
        self.refuses(BadMeaning, {"what": "table"}, Meaning, 2, ((3, (2,)), good, good))
        self.refuses(BadMeaning, {"what": "name"}, Meaning, 2, (good, good, bad_table))


class FitTest(GuardCase):
    def test_a_meaning_that_fits_is_returned(self):
        self.assertIs(check_meaning(LOT, MEANING), MEANING)
        more = Meaning(2, TABLES + ((0, (1,)), (99, (0, 1) * 8)))
        self.assertEqual(check_meaning(LOT, more), more)
        looks = lot_of_text("1: kept 0")
        self.assertEqual(check_meaning(looks, Meaning(3, ())), Meaning(3, ()))
        rng = random.Random("fits")
        for lot in made_up_lots(40, "fits"):
            for modulus in (2, 3):
                meaning = made_up_meaning(rng, lot, modulus)
                self.assertEqual(check_meaning(lot, meaning), meaning)

    def test_step_by_step(self):
        tables = dict(TABLES)
        for left_out, what in ((7, "name"), (3, "name"), (5, "name"), (2, "name")):
            left = {name: table for name, table in tables.items() if name != left_out}
            self.refuses(BadMeaning, {"what": what}, check_meaning, LOT, Meaning(2, list(left.items())))
        order = (7, 3, 5, 2)
        for first, second in itertools.combinations(order, 2):
            wrong = {**tables, first: (0,) * 16}
            del wrong[second]
            self.refuses(BadMeaning, {"what": "table"}, check_meaning, LOT, Meaning(2, list(wrong.items())))
            wrong = {**tables, second: (0,) * 16}
            del wrong[first]
            self.refuses(BadMeaning, {"what": "name"}, check_meaning, LOT, Meaning(2, list(wrong.items())))

    def test_tables_of_another_length(self):
        for pockets, text in ((0, "any 0"), (1, "any 0 by 0")):
            lot = lot_of_text(f"1: {text} as 1")
            for modulus in (2, 3):
                for length in range(5):
                    meaning = Meaning(modulus, ((1, (0,) * modulus ** length),))
                    if length == pockets:
                        self.assertIs(check_meaning(lot, meaning), meaning)
                    else:
                        self.refuses(BadMeaning, {"what": "table"}, check_meaning, lot, meaning)


class StoresTest(GuardCase):
    def test_all_stores(self):
        for cells in (1, 2, 3):
            lot = lot_of_text(f"{cells}: kept 0")
            for modulus in (2, 3):
                self.assertEqual(all_stores(lot, modulus), plain_stores(lot, modulus))

    def test_check_store(self):
        for modulus in (2, 3):
            meaning = Meaning(modulus, ())
            for store in plain_stores(LOT, modulus):
                self.assertEqual(check_store(LOT, meaning, store), store)
                self.assertEqual(check_store(LOT, meaning, list(store)), store)
                self.assertIs(type(check_store(LOT, meaning, list(store))), tuple)

    def test_bad_stores(self):
        calls = ((check_store, ()), (run_weaving, (WEAVING,)), (run_moments, (WEAVING,)), (run_program, (1,)),
                 (run_wholes, ((),)))
        for call, more in calls:
            for wrong in (*OTHER_KINDS, 0, "00", b"\0\0", (), (0,), (0, 0, 0), (0, 2), (-1, 0), (0, True), [False, 0],
                          (0, 1.0), (0, None), ("0", 0), ((0,), 0), {0: 0, 1: 1}):
                self.refuses(BadStore, {}, call, LOT, MEANING, *more, wrong)
        three = Meaning(3, ())
        self.assertEqual(check_store(LOT, three, (2, 2)), (2, 2))
        self.refuses(BadStore, {}, check_store, LOT, three, (2, 3))


class RunTest(GuardCase):
    def test_an_example_step_by_step(self):
        # looks at cell 0, puts 1 on cell 1, puts 7's entry for (1, 1), puts 2's entry for what was on cell 1, adds 3's
        self.assertEqual(
            run_moments(LOT, MEANING, WEAVING, (1, 0)),
            ((1, 0), (1, 0), (1, 1), (0, 1), (1, 1), (1, 0)),
        )
        self.assertEqual(run_weaving(LOT, MEANING, list(WEAVING), [1, 0]), (1, 0))
        self.assertEqual(run_program(LOT, MEANING, 1, (1, 1)), (0, 1))
        self.assertEqual(run_wholes(LOT, MEANING, (1, 1, 0), (1, 0)), (0, 1))

    def test_entries_stand_in_the_order_of_the_pockets(self):
        lot = lot_of_text("3: kept 0; kept 1; kept 2; any 0 by 0 1 2 as 4")
        meaning = Meaning(3, ((4, [entry % 3 for entry in range(27)]),))
        other = Meaning(3, ((4, [entry // 9 for entry in range(27)]),))
        middle = Meaning(3, ((4, [entry // 3 % 3 for entry in range(27)]),))
        for store in plain_stores(lot, 3):
            self.assertEqual(run_program(lot, meaning, 0, store), (store[2], store[1], store[2]))
            self.assertEqual(run_program(lot, other, 0, store), store)
            self.assertEqual(run_program(lot, middle, 0, store), (store[1], store[1], store[2]))

    def test_four_pockets(self):
        lot = lot_of_text("2: any 0 as 1; any 1 by 0 1 as 2; any 0 by 0 1 2 as 3; any 1 by 0 1 2 3 as 4")
        rng = random.Random("four")
        for modulus in (2, 3):
            for _ in range(10):
                meaning = made_up_meaning(rng, lot, modulus)
                for store in plain_stores(lot, modulus):
                    moments = plain_moments(lot, modulus, dict(meaning.tables), (0, 0, 0, 0), store)
                    self.assertEqual(run_moments(lot, meaning, (0, 0, 0, 0), store), moments)

    def test_adds_are_taken_modulo(self):
        lot = lot_of_text("1: adds 0 as 1 | adds 0 as 2")
        for modulus in (2, 3):
            for one, other, worth in itertools.product(range(modulus), repeat=3):
                meaning = Meaning(modulus, ((1, (one,)), (2, (other,))))
                for weaving in ((0, 1), (1, 0)):
                    end = (one + other + worth) % modulus
                    self.assertEqual(run_weaving(lot, meaning, weaving, (worth,)), (end,))

    def test_made_up_lots(self):
        rng = random.Random("runs")
        for lot in made_up_lots(60, "runs"):
            for modulus in (2, 3):
                meaning = made_up_meaning(rng, lot, modulus)
                tables = dict(meaning.tables)
                weavings = all_weavings(lot)
                for store in rng.sample(plain_stores(lot, modulus), min(modulus ** lot.cells, 5)):
                    for weaving in rng.sample(weavings, min(len(weavings), 5)):
                        moments = plain_moments(lot, modulus, tables, weaving, store)
                        self.assertEqual(run_moments(lot, meaning, list(weaving), list(store)), moments)
                        self.assertEqual(run_weaving(lot, meaning, weaving, store), moments[-1])
                    for program in range(len(lot)):
                        end = plain_moments(lot, modulus, tables, row_steps(lot, [program]), store)[-1]
                        self.assertEqual(run_program(lot, meaning, program, list(store)), end)
                    row = [rng.randrange(len(lot)) for _ in range(rng.randrange(8))]
                    end = plain_moments(lot, modulus, tables, row_steps(lot, row), store)[-1]
                    self.assertEqual(run_wholes(lot, meaning, row, store), end)

    def test_empty_and_long_rows(self):
        self.assertEqual(run_wholes(LOT, MEANING, (), [1, 0]), (1, 0))
        self.assertIs(type(run_wholes(LOT, MEANING, [], [1, 0])), tuple)
        counts = lot_of_text("1: adds 0 as 1 | kept 0")
        meaning = Meaning(3, ((1, (1,)),))
        self.assertEqual(run_wholes(counts, meaning, (0, 1) * 3001, (1,)), ((1 + 3001) % 3,))
        self.assertEqual(run_wholes(counts, meaning, [0] * 3002, (1,)), ((1 + 3002) % 3,))


class ErrorsTest(GuardCase):
    short = Meaning(2, TABLES[1:])

    def test_bad_meanings_come_first(self):
        for call, more in ((run_weaving, (None, None)), (run_moments, (None, None)), (run_program, (9, None)),
                           (run_wholes, (None, None))):
            self.refuses(BadMeaning, {"what": "name"}, call, LOT, self.short, *more)
            self.refuses(BadMeaning, {"what": "table"}, call, LOT, Meaning(2, ((7, (0,)),)), *more)

    def test_bad_weavings_come_next(self):
        for call in (run_weaving, run_moments):
            for wrong in (*OTHER_KINDS, 0, "01010", (0, 1, 0, 1, 2), (0, True, 0, 1, 0)):
                self.refuses(BadWeaving, {"what": "form"}, call, LOT, MEANING, wrong, None)
            for wrong in ((), (0, 1), [0, 0, 0, 0, 1]):
                self.refuses(BadWeaving, {"what": "length"}, call, LOT, MEANING, wrong, None)

    def test_bad_programs_and_rows_come_next(self):
        for wrong in (*OTHER_KINDS, -1, 2, "1", (0,)):
            self.refuses(NoProgram, {"program": wrong}, run_program, LOT, MEANING, wrong, None)
            self.refuses(BadRow, {"index": 2}, run_wholes, LOT, MEANING, [0, 1, wrong, wrong], None)
        for wrong in (*OTHER_KINDS, 0, "01"):
            self.refuses(BadRow, {"index": -1}, run_wholes, LOT, MEANING, wrong, None)

    def test_nothing_that_is_passed_in_is_changed(self):
        store, weaving, row = [1, 0], list(WEAVING), [0, 1, 1]
        programs = LOT.programs
        moments = run_moments(LOT, MEANING, weaving, store)
        run_weaving(LOT, MEANING, weaving, store)
        run_program(LOT, MEANING, 0, store)
        run_wholes(LOT, MEANING, row, store)
        check_store(LOT, MEANING, store)
        self.assertEqual((store, weaving, row), ([1, 0], list(WEAVING), [0, 1, 1]))
        self.assertEqual((LOT.programs, MEANING.tables), (programs, TABLES))
        store[0] = weaving[0] = 9
        self.assertEqual(moments, run_moments(LOT, MEANING, WEAVING, (1, 0)))


if __name__ == "__main__":
    unittest.main()
