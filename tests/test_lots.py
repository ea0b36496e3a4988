"""[1.2], [1.3] and [1.4]: lots."""

import unittest

from helper import OTHER_KINDS, GuardCase, made_up_lots
from knownguards.errors import BadLot, NoProgram, NoStep
from knownguards.lots import Lot, check_program, function_shape, step_of

KEPT = (0, "kept", (), -1)
BLIND = (0, "any", (), 0)
ADDS = (0, "adds", (), 1)
LOOKS = (0, "any", (0,), 2)


class LotTest(GuardCase):
    def bad(self, what, cells, programs):
        with self.subTest(cells=repr(cells), programs=repr(programs)):
            self.refuses(BadLot, {"what": what}, Lot, cells, programs)

    def test_attributes_and_properties(self):
        lot = Lot(2, [[KEPT, [0, "any", [0], 5]], ((0, "any", (), 1), (1, "adds", [0], 2), KEPT)])
        self.assertEqual(lot.cells, 2)
        self.assertEqual(
            lot.programs,
            ((KEPT, (0, "any", (0,), 5)), ((0, "any", (), 1), (1, "adds", (0,), 2), KEPT)),
        )
        self.assertEqual(lot.sizes, (2, 3))
        self.assertEqual(lot.total, 5)
        self.assertEqual(len(lot), 2)
        self.assertEqual(list(lot), list(lot.programs))
        self.assertEqual([steps for steps in lot], [steps for steps in lot])

    def test_everything_within_is_a_tuple(self):
        lot = Lot(1, [[[0, "any", [0], 5]], [[0, "kept", [], -1]]])
        self.assertEqual(lot.programs, (((0, "any", (0,), 5),), (KEPT,)))
        self.assertIsInstance(lot.sizes, tuple)

    def test_one_two_and_three_programs_of_one_to_four_steps(self):
        for sizes in ((1,), (4,), (1, 1), (4, 3), (3, 4), (1, 1, 1), (2, 1, 4), (4, 2, 1), (3, 3, 1)):
            lot = Lot(1, [[BLIND] * size for size in sizes])
            self.assertEqual((lot.sizes, lot.total, len(lot)), (sizes, sum(sizes), len(sizes)))

    def test_size_properties_are_not_called(self):
        self.assertIsInstance(Lot.sizes, property)
        self.assertIsInstance(Lot.total, property)

    def test_a_list_is_not_changed_and_may_change_later(self):
        goes_by, step, steps, programs = [0], [0, "any", None, 5], [], []
        step[2] = goes_by
        steps.append(step)
        programs.append(steps)
        lot = Lot(1, programs)
        self.assertEqual(programs, [[[0, "any", [0], 5]]])
        goes_by.clear()
        step[0] = 9
        steps.append(step)
        programs.append(steps)
        self.assertEqual(lot.programs, (((0, "any", (0,), 5),),))
        self.assertEqual((lot.sizes, lot.total), ((1,), 1))

    def test_equal_lots(self):
        lot = Lot(1, ((KEPT,), (BLIND,)))
        self.assertTrue(lot == Lot(1, [[list(KEPT)], [list(BLIND)]]))
        self.assertFalse(lot != Lot(1, ((KEPT,), (BLIND,))))

    def test_unlike_lots(self):
        lot = Lot(1, ((KEPT,), (BLIND,)))
        others = (
            Lot(2, ((KEPT,), (BLIND,))), Lot(1, ((BLIND,), (KEPT,))), Lot(1, ((KEPT,),)),
            Lot(1, ((KEPT,), ((0, "any", (), 1),))), Lot(1, ((KEPT, BLIND),)),
        )
        for other in others:
            self.assertFalse(lot == other)
            self.assertTrue(lot != other)

    def test_a_lot_equals_nothing_else(self):
        class Alike:
            cells = 1
            programs = ((KEPT,), (BLIND,))

        lot = Lot(1, Alike.programs)
        for other in (lot.programs, [*lot.programs], 1, None, (1, lot.programs), Alike(), "lot"):
            self.assertFalse(lot == other)
            self.assertTrue(lot != other)

    def test_cells(self):
        for cells in (*OTHER_KINDS, 0, 4, -1, (1,), [1]):
            self.bad("cells", cells, ((BLIND,),))

    def test_one_two_and_three_cells(self):
        for cells in (1, 2, 3):
            self.assertEqual(Lot(cells, (((cells - 1, "any", (), 0),),)).cells, cells)
            self.bad("step", cells, (((cells, "any", (), 0),),))

    def test_programs(self):
        for programs in (*OTHER_KINDS, (), [], ((BLIND,),) * 4, [(BLIND,)] * 5, 3, "abc", iter([(BLIND,)])):
            self.bad("programs", 1, programs)
        self.bad("programs", 1, Lot(1, ((BLIND,),)))

    def test_program(self):
        for steps in (*OTHER_KINDS, (), [], (BLIND,) * 5, [BLIND] * 6, 0, "abc"):
            self.bad("program", 1, (steps,))
            self.bad("program", 1, (steps, (BLIND,), [BLIND]))
            self.bad("program", 1, [(BLIND,), steps, (BLIND,)])
            self.bad("program", 1, ((BLIND,), (BLIND,), steps))

    def test_many(self):
        for sizes in ((4, 4), (3, 3, 2), (4, 3, 1), (1, 3, 4), (4, 4, 4)):
            self.bad("many", 1, [[BLIND] * size for size in sizes])

    def test_step(self):
        wrong_steps = (
            *OTHER_KINDS, (), (0, "any", ()), (1, "any", (), 0), (True, "any", (), 0), (0, "none", (), 0),
            (0, "any", (3,), 0), (0, "any", (), 100), (0, "any", (), True), (0, "kept", (), 0), (0, "kept", (0,), -1),
        )
        for step in wrong_steps:
            self.bad("step", 1, ((step,),))
            self.bad("step", 1, ((step, BLIND), (BLIND,)))
            self.bad("step", 1, ((BLIND,), (BLIND, step, BLIND), (BLIND,)))
            self.bad("step", 1, ((BLIND,), (BLIND,), (BLIND, BLIND, step)))

    def test_steps_are_checked_at_their_own_places(self):
        for place in range(4):
            ahead = [KEPT] * place
            self.assertEqual(Lot(1, [[*ahead, (0, "any", (place,), 0)]]).sizes, (place + 1,))
            self.bad("step", 1, [[*ahead, (0, "any", (place + 1,), 0), KEPT][-4:]])
            self.bad("step", 1, [[*ahead, (0, "adds", (place,), 0)]])

    def test_pocket(self):
        by_first = (0, "any", (0,), 2)
        self.bad("pocket", 1, ((ADDS, by_first),))
        self.bad("pocket", 1, ((ADDS, (0, "adds", (0,), 2)),))
        self.bad("pocket", 1, ((KEPT,), (KEPT, (0, "adds", (0,), 1), KEPT, (0, "any", (0, 1, 2), 2))))
        self.bad("pocket", 1, ((BLIND,), (BLIND,), (KEPT, ADDS, (0, "any", (0, 1), 2))))
        self.bad("pocket", 1, ((BLIND,), (KEPT, ADDS, KEPT, (0, "any", (1, 3), 2)), (BLIND,)))

    def test_pockets_of_adds_of_other_programs_and_other_places_do_not_matter(self):
        lot = Lot(1, ((ADDS, KEPT, (0, "any", (1, 2), 2)), (KEPT, (0, "any", (0, 1), 2))))
        self.assertEqual(lot.sizes, (3, 2))

    def test_name(self):
        any_by_two = (0, "any", (0, 1), 2)
        for first, second in (
            ((0, "any", (), 3), (0, "adds", (), 3)),
            ((0, "adds", (), 3), (0, "any", (), 3)),
            ((0, "any", (), 3), (0, "any", (0,), 3)),
            ((0, "adds", (), 3), (1, "adds", (), 3)),
        ):
            self.bad("name", 2, ((first,), (second,)))
            self.bad("name", 2, ((first,), (BLIND, KEPT), (KEPT, second)))
            self.bad("name", 2, ((BLIND, first, second) if second[2] == () else (BLIND, first, (0, "any", (2,), 3)),))
        self.bad("name", 1, ((LOOKS,), (KEPT, any_by_two)))
        self.bad("name", 1, ((KEPT, (0, "adds", (), 3)), (KEPT, (0, "adds", (0,), 3))))
        self.bad("name", 1, ((BLIND,), (BLIND,), (BLIND, (0, "any", (0,), 0))))

    def test_shared_names(self):
        lot = Lot(2, (
            ((0, "any", (0,), 3), (1, "any", (0,), 3), (1, "kept", (), -1)),
            (KEPT, (1, "adds", (0,), 4)),
            (KEPT, (1, "adds", (0,), 4)),
        ))
        self.assertEqual(lot.total, 7)

    def test_kept_steps_share_no_name(self):
        self.assertEqual(Lot(2, ((KEPT, (1, "kept", (), -1)), (KEPT,))).total, 3)

    def test_the_first_word_that_applies_to_the_whole_lot(self):
        no_step = (0, "none", (), 0)
        pocket = (ADDS, (0, "any", (0,), 2))
        unlike = (KEPT, (0, "any", (), 2))
        self.bad("cells", 0, ())
        self.bad("cells", 4, None)
        self.bad("cells", True, [[]])
        self.bad("programs", 1, [[], [], [], []])
        self.bad("programs", 1, [[BLIND] * 4] * 4)
        self.bad("program", 1, [[BLIND] * 4, [BLIND] * 4, []])
        self.bad("program", 1, [[BLIND] * 4, [BLIND] * 5])
        self.bad("program", 1, [[no_step], []])
        self.bad("program", 1, [pocket, unlike, 5])
        self.bad("many", 1, [[no_step] * 4, [no_step] * 4])
        self.bad("many", 1, [[*pocket, BLIND, BLIND], [*unlike, BLIND, BLIND]])
        self.bad("step", 1, [pocket, [BLIND, no_step]])
        self.bad("step", 1, [[BLIND], [(0, "any", (0,), 0), no_step]])
        self.bad("pocket", 1, [unlike, pocket])
        self.bad("pocket", 1, [[BLIND, (0, "adds", (), 0)], pocket])
        self.bad("pocket", 1, [pocket, unlike])

    def test_methods_stand_in_the_class_itself(self):
        for name in ("renamed", "with_program", "without_program", "sizes", "total", "__eq__", "__len__", "__iter__"):
            self.assertIn(name, vars(Lot))


class RenamedTest(GuardCase):
    def test_names_are_counted_by_program_and_then_by_place(self):
        lot = Lot(2, (
            ((0, "any", (), 90), (1, "kept", (), -1), (0, "any", (0,), 5)),
            ((1, "any", (), 90), (1, "adds", (), 0), (1, "any", (), 99)),
        ))
        self.assertEqual(lot.renamed().programs, (
            ((0, "any", (), 0), (1, "kept", (), -1), (0, "any", (0,), 1)),
            ((1, "any", (), 0), (1, "adds", (), 2), (1, "any", (), 3)),
        ))

    def test_kept_steps_ahead_of_all_names(self):
        lot = Lot(1, ((KEPT, KEPT, (0, "any", (), 7)), (KEPT, (0, "any", (), 6))))
        self.assertEqual(lot.renamed(), Lot(1, ((KEPT, KEPT, BLIND), (KEPT, (0, "any", (), 1)))))

    def test_it_changes_names_alone_and_not_the_lot(self):
        for lot in made_up_lots(100, "renamed"):
            programs = lot.programs
            renamed = lot.renamed()
            self.assertEqual(lot.programs, programs)
            self.assertEqual(renamed.cells, lot.cells)
            pairs = {}
            order = []
            for old_steps, new_steps in zip(lot, renamed):
                for old, new in zip(old_steps, new_steps):
                    self.assertEqual(old[:3], new[:3])
                    self.assertEqual(pairs.setdefault(old[3], new[3]), new[3])
                    if new[3] not in order and new[3] != -1:
                        order.append(new[3])
            self.assertEqual(order, list(range(len(order))))
            self.assertEqual(len(set(pairs.values())), len(pairs))
            self.assertEqual(renamed.renamed(), renamed)


class ProgramsTest(GuardCase):
    def test_with_program(self):
        lot = Lot(1, ((KEPT,),))
        steps = [[0, "any", [], 4], (0, "adds", (0,), 5)]
        more = lot.with_program(steps)
        self.assertEqual(more, Lot(1, ((KEPT,), ((0, "any", (), 4), (0, "adds", (0,), 5)))))
        self.assertEqual(steps, [[0, "any", [], 4], (0, "adds", (0,), 5)])
        self.assertEqual(lot, Lot(1, ((KEPT,),)))

    def test_with_program_is_checked_like_a_lot(self):
        lot = Lot(1, ((BLIND,) * 4, (BLIND,) * 2))
        for steps in (*OTHER_KINDS, (), (BLIND,) * 5, 0):
            self.refuses(BadLot, {"what": "program"}, lot.with_program, steps)
        self.refuses(BadLot, {"what": "many"}, lot.with_program, (BLIND, BLIND))
        self.refuses(BadLot, {"what": "step"}, lot.with_program, ((1, "any", (), 0),))
        self.refuses(BadLot, {"what": "name"}, lot.with_program, ((0, "any", (0,), 0),))
        short = Lot(1, ((BLIND,),))
        self.refuses(BadLot, {"what": "pocket"}, short.with_program, (ADDS, LOOKS))
        three = Lot(1, ((BLIND,), (BLIND,), (BLIND,)))
        for steps in ((BLIND,), None, (BLIND,) * 5):
            self.refuses(BadLot, {"what": "programs"}, three.with_program, steps)

    def test_without_program(self):
        first, second, third = (KEPT,), (BLIND, LOOKS), (ADDS,)
        lot = Lot(3, (first, second, third))
        self.assertEqual(lot.without_program(0), Lot(3, (second, third)))
        self.assertEqual(lot.without_program(1), Lot(3, (first, third)))
        self.assertEqual(lot.without_program(2), Lot(3, (first, second)))
        self.assertEqual(lot, Lot(3, (first, second, third)))

    def test_without_program_of_no_such_number(self):
        for lot in (Lot(1, ((BLIND,),)), Lot(1, ((BLIND,), (BLIND,)))):
            for program in (*OTHER_KINDS, -1, len(lot), 9, (0,)):
                self.refuses(NoProgram, {"program": program}, lot.without_program, program)

    def test_without_the_only_program(self):
        self.refuses(BadLot, {"what": "programs"}, Lot(1, ((BLIND,),)).without_program, 0)

    def test_with_and_without_again(self):
        for lot in made_up_lots(60, "with and without"):
            if len(lot) > 1:
                last = len(lot) - 1
                self.assertEqual(lot.without_program(last).with_program(lot.programs[last]), lot)


class StepOfTest(GuardCase):
    lot = Lot(1, ((KEPT, BLIND), (ADDS,)))

    def test_check_program(self):
        self.assertEqual([check_program(self.lot, program) for program in (0, 1)], [0, 1])
        for program in (*OTHER_KINDS, -1, 2, (0,), [1]):
            self.refuses(NoProgram, {"program": program}, check_program, self.lot, program)

    def test_step_of(self):
        self.assertEqual(step_of(self.lot, 0, 0), KEPT)
        self.assertEqual(step_of(self.lot, 0, 1), BLIND)
        self.assertEqual(step_of(self.lot, 1, 0), ADDS)

    def test_step_of_no_program(self):
        for program in (*OTHER_KINDS, -1, 2):
            for place in (0, 9, None):
                self.refuses(NoProgram, {"program": program}, step_of, self.lot, program, place)

    def test_step_of_no_place(self):
        for place in (*OTHER_KINDS, -1, 2, (0,)):
            self.refuses(NoStep, {"program": 0, "place": place}, step_of, self.lot, 0, place)
        self.refuses(NoStep, {"program": 1, "place": 1}, step_of, self.lot, 1, 1)

    def test_function_shape(self):
        for step, shape in (
            ((2, "any", (), 5), ("any", 0, -1)),
            ((1, "any", (0, 1, 2, 3), 5), ("any", 4, -1)),
            ((0, "adds", (), 5), ("adds", 0, 0)),
            ((2, "adds", (0, 2), 5), ("adds", 2, 2)),
            ((2, "kept", (), -1), ("kept", 0, -1)),
        ):
            self.assertEqual(function_shape(step), shape)

    def test_steps_may_share_a_name_exactly_if_their_shapes_are_equal(self):
        steps = [
            (cell, kind, goes_by, 1)
            for cell in (0, 1) for kind in ("any", "adds") for goes_by in ((), (0,), (1,), (0, 1))
        ]
        for one in steps:
            for other in steps:
                programs = [[KEPT, KEPT, one], [KEPT, KEPT, other]]
                if function_shape(one) == function_shape(other):
                    self.assertEqual(Lot(2, programs).total, 6)
                else:
                    self.refuses(BadLot, {"what": "name"}, Lot, 2, programs)


if __name__ == "__main__":
    unittest.main()
