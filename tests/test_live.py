"""[7.3] to [7.5]: the guard at work."""

import itertools
import random
import types
import unittest

from helper import OTHER_KINDS, GuardCase, blind_lot, made_up_guard_weavings, made_up_lots
from knownguards.errors import BadAsk, BadWeaving, NotHeld
from knownguards.guards import Guard
from knownguards.live import Granted, Held, Live, Run, live_events, run_order
from knownguards.lottexts import lot_of_text
from knownguards.weavings import all_weavings, unwoven_weavings

EXAMPLE = lot_of_text("2: any 0 by 0 as 0; any 1 by 0 1 as 1 | any 0 by 0 as 2; any 1 by 0 1 as 3")
LOTS = [EXAMPLE, blind_lot(3), blind_lot(1, 1, 1), blind_lot(3, 3), blind_lot(2, 2, 2),
        *[lot for lot in made_up_lots(30, "live") if len(lot) > 1 and lot.total < 7]]
SEVEN = [lot_of_text("2: any 0 by 0 as 0; any 1 by 1 as 1 | any 0 by 0 as 2; kept 0; any 1 by 0 2 as 3 | "
                     "adds 0 as 4; any 1 by 1 as 5"), blind_lot(2, 3, 2)]


def made_up_guards(lot, rng, many=2):
    weavings, unwoven = all_weavings(lot), unwoven_weavings(lot)
    made_up = [Guard(lot, made_up_guard_weavings(rng, weavings, unwoven)) for _ in range(many)]
    return [Guard.unwoven(lot), Guard.greatest(lot), Guard.whole(lot), *made_up]


ALL_GUARDS = [guard for lot in LOTS for guard in made_up_guards(lot, random.Random("guards"))]


class PlainLive:
    """A guard at work, by the words of [7.3], over the bare set of its weavings."""

    def __init__(self, guard):
        self.weavings = set(guard.weavings)
        self.sizes = guard.lot.sizes
        self.row, self.held = (), ()

    def lets(self, row):
        return any(weaving[:len(row)] == row for weaving in self.weavings)

    def ask(self, program):
        """The asked program if it is held, else the place and what is freed."""
        if not self.lets(self.row + (program,)):
            self.held += (program,)
            return None
        place = self.row.count(program)
        self.row += (program,)
        freed = ()
        while True:
            able = [waiting for waiting in self.held if self.lets(self.row + (waiting,))]
            if not able:
                return place, freed
            self.row += (able[0],)
            self.held = tuple(waiting for waiting in self.held if waiting != able[0])
            freed += (able[0],)


def told_of(program, plain):
    return Held(program) if plain is None else Granted(program, *plain)


def state_of(live):
    return live.granted, live.held, live.finished


class AskTest(GuardCase):
    def test_the_beginning(self):
        for guard in ALL_GUARDS:
            live = Live(guard)
            self.assertIs(live.guard, guard)
            self.assertEqual(state_of(live), ((), (), False))

    def test_any_asks_of_any_guard(self):
        rng = random.Random("asks")
        for guard in ALL_GUARDS * 4:
            live, plain = Live(guard), PlainLive(guard)
            while not live.finished:
                program = rng.choice([
                    program for program, size in enumerate(guard.lot.sizes)
                    if program not in plain.held and plain.row.count(program) < size
                ])
                found = live.ask(program)
                expected = told_of(program, plain.ask(program))
                self.assertIs(type(found), type(expected))
                self.assertEqual(found, expected)
                self.assertEqual((live.granted, live.held), (plain.row, plain.held))
                self.assertIs(live.finished, len(plain.row) == guard.lot.total)
            self.assertIn(live.granted, guard)
            self.assertEqual(live.held, ())

    def test_places_and_what_is_freed(self):
        lot = blind_lot(2, 2, 1)
        live = Live(Guard.unwoven(lot))
        self.assertEqual(live.ask(1), Granted(1, 0, ()))
        self.assertEqual(live.ask(2), Held(2))
        self.assertEqual(live.ask(0), Held(0))
        self.assertEqual((live.held, live.granted), ((2, 0), (1,)))
        self.assertEqual(live.ask(1), Granted(1, 1, (2, 0)))
        self.assertEqual((live.held, live.granted, live.finished), ((), (1, 1, 2, 0), False))
        self.assertEqual(live.ask(0), Granted(0, 1, ()))
        self.assertTrue(live.finished)

    def test_the_eldest_is_asked_first(self):
        lot = blind_lot(1, 1, 2)
        for first, second in ((0, 1), (1, 0)):
            live = Live(Guard.unwoven(lot))
            live.ask(2)
            live.ask(first)
            live.ask(second)
            self.assertEqual(live.ask(2).freed, (first, second))
            self.assertEqual(live.granted, (2, 2, first, second))

    def test_once_more_from_the_eldest_behind_each_grant(self):
        lot = blind_lot(3, 1, 1)
        live = Live(Guard(lot, unwoven_weavings(lot) + ((0, 0, 2, 1, 0),)))
        self.assertEqual([live.ask(0), live.ask(1), live.ask(2)], [Granted(0, 0, ()), Held(1), Held(2)])
        self.assertEqual(live.held, (1, 2))
        # the eldest cannot come, the other one can, and behind it the eldest comes, too
        self.assertEqual(live.ask(0), Granted(0, 1, (2, 1)))
        self.assertEqual((live.granted, live.held), ((0, 0, 2, 1), ()))

    def test_one_freed_and_one_still_held(self):
        lot = blind_lot(3, 1, 1)
        live = Live(Guard(lot, unwoven_weavings(lot) + ((0, 0, 2, 0, 1),)))
        for program in (0, 1, 2):
            live.ask(program)
        self.assertEqual(live.ask(0), Granted(0, 1, (2,)))
        self.assertEqual((live.granted, live.held), ((0, 0, 2), (1,)))
        self.assertEqual(live.ask(0), Granted(0, 2, (1,)))
        self.assertTrue(live.finished)

    def test_two_lives_of_one_guard(self):
        guard = Guard.unwoven(EXAMPLE)
        one, other = Live(guard), Live(guard)
        one.ask(0)
        one.ask(1)
        self.assertEqual(state_of(other), ((), (), False))
        other.ask(1)
        self.assertEqual(state_of(one), ((0,), (1,), False))
        self.assertEqual(guard, Guard.unwoven(EXAMPLE))

    def test_what_is_returned_does_not_change(self):
        live = Live(Guard.unwoven(EXAMPLE))
        granted, held = live.granted, live.held
        live.ask(0)
        live.ask(1)
        self.assertEqual((granted, held), ((), ()))
        self.assertEqual((type(live.granted), type(live.held)), (tuple, tuple))

    def test_properties(self):
        for name in ("granted", "held", "finished"):
            self.assertIsInstance(vars(Live)[name], property)


class RefusedTest(GuardCase):
    def refuses_and_keeps(self, live, error, told, call, *arguments):
        """The call is refused and the live guard is as it was."""
        state = state_of(live)
        self.refuses(error, told, call, *arguments)
        self.assertEqual(state_of(live), state)

    def test_each_word(self):
        live = Live(Guard.unwoven(EXAMPLE))
        for wrong in (*OTHER_KINDS, 2, -1, "0", (0,), [0]):
            self.refuses_and_keeps(live, BadAsk, {"what": "program"}, live.ask, wrong)
        live.ask(1)
        live.ask(0)
        self.refuses_and_keeps(live, BadAsk, {"what": "held"}, live.ask, 0)
        for wrong in (True, False, 2):
            self.refuses_and_keeps(live, BadAsk, {"what": "program"}, live.ask, wrong)
        live.ask(1)
        self.refuses_and_keeps(live, BadAsk, {"what": "finished"}, live.ask, 1)
        live.ask(0)
        for program in (0, 1):
            self.refuses_and_keeps(live, BadAsk, {"what": "finished"}, live.ask, program)
        self.refuses_and_keeps(live, BadAsk, {"what": "program"}, live.ask, True)

    def test_refused_calls_between_all_asks(self):
        rng = random.Random("between")
        for guard in ALL_GUARDS:
            live = Live(guard)
            many = len(guard.lot)
            while not live.finished:
                free = []
                for program, size in enumerate(guard.lot.sizes):
                    if live.granted.count(program) == size:
                        self.refuses_and_keeps(live, BadAsk, {"what": "finished"}, live.ask, program)
                    elif program in live.held:
                        self.refuses_and_keeps(live, BadAsk, {"what": "held"}, live.ask, program)
                    else:
                        free.append(program)
                    if program not in live.held:
                        self.refuses_and_keeps(live, NotHeld, {"program": program}, live.way_out, program)
                self.refuses_and_keeps(live, BadAsk, {"what": "program"}, live.ask, many)
                live.ask(rng.choice(free))

    def test_way_out_of_what_is_not_held(self):
        live = Live(Guard.unwoven(EXAMPLE))
        for wrong in (*OTHER_KINDS, 0, 1, 2, -1, "0", (0,)):
            self.refuses_and_keeps(live, NotHeld, {"program": wrong}, live.way_out, wrong)
        live.ask(0)
        live.ask(1)
        for wrong in (*OTHER_KINDS, 0, 2, -1, 1.0, "1"):
            self.refuses_and_keeps(live, NotHeld, {"program": wrong}, live.way_out, wrong)
        self.assertEqual(live.way_out(1), (0,))
        live.ask(0)
        self.refuses_and_keeps(live, NotHeld, {"program": 1}, live.way_out, 1)


class WayOutTest(GuardCase):
    def plain_way(self, guard, row, program):
        others = [other for other in range(len(guard.lot)) if other != program]
        for length in range(guard.lot.total + 1):
            for way in itertools.product(others, repeat=length):
                whole = row + way + (program,)
                if any(weaving[:len(whole)] == whole for weaving in guard.weavings):
                    return way
        return None

    def test_whatever_has_been_asked(self):
        rng = random.Random("way out")
        lengths = set()
        for guard in ALL_GUARDS * 2:
            live = Live(guard)
            while not live.finished:
                live.ask(rng.choice([
                    program for program, size in enumerate(guard.lot.sizes)
                    if program not in live.held and live.granted.count(program) < size
                ]))
                state = state_of(live)
                for program in live.held:
                    way = live.way_out(program)
                    self.assertEqual(way, self.plain_way(guard, live.granted, program))
                    self.assertGreater(len(way), 0)
                    lengths.add(len(way))
                self.assertEqual(state_of(live), state)
        self.assertLessEqual({1, 2, 3}, lengths)

    def test_other_held_programs_and_one_several_times(self):
        lot = blind_lot(3, 2, 1)
        live = Live(Guard(lot, unwoven_weavings(lot) + ((0, 1, 0, 0, 1, 2),)))
        live.ask(0)
        live.ask(2)
        self.assertEqual(live.way_out(2), (0, 0))
        live = Live(Guard.unwoven(blind_lot(1, 2, 1)))
        live.ask(1)
        live.ask(0)
        self.assertEqual(live.way_out(0), (1,))
        lot = blind_lot(2, 1, 2)
        live = Live(Guard(lot, unwoven_weavings(lot) + ((2, 1, 0, 2, 0),)))
        live.ask(2)
        live.ask(0)
        self.assertEqual(live.way_out(0), (1,))
        live = Live(Guard(lot, unwoven_weavings(lot) + ((2, 0, 1, 2, 0),)))
        live.ask(2)
        live.ask(1)
        self.assertEqual((live.held, live.way_out(1)), ((1,), (0,)))

    def test_the_shortest_and_then_the_least(self):
        lot = blind_lot(2, 1, 2)
        guard = Guard(lot, unwoven_weavings(lot) + ((0, 2, 0, 1, 2), (0, 2, 2, 1, 0)))
        live = Live(guard)
        live.ask(0)
        live.ask(1)
        self.assertEqual(live.way_out(1), (0,))
        live = Live(guard)
        live.ask(0)
        live.ask(2)
        live.ask(1)
        self.assertEqual((live.granted, live.way_out(1)), ((0, 2), (0,)))


class RunTest(GuardCase):
    def plain_run(self, guard, order):
        """The events, the number of held asks and the granted row, by the words of [7.5]."""
        plain, rest, events = PlainLive(guard), list(order), []
        while rest:
            at = [index for index, program in enumerate(rest) if program not in plain.held][0]
            program = rest.pop(at)
            told = plain.ask(program)
            if told is None:
                events.append(("held", program))
            else:
                events += [("granted", program)] + [("freed", freed) for freed in told[1]]
        return Run(plain.row, [word for word, _ in events].count("held"), tuple(events))

    def check(self, guard, order):
        run = run_order(guard, list(order))
        self.assertEqual(run, self.plain_run(guard, order))
        events = live_events(guard, order)
        self.assertIsInstance(events, types.GeneratorType)
        self.assertEqual(tuple(events), run.events)
        self.assertIn(run.weaving, guard)
        self.assertEqual(run.holds == 0, order in guard)
        if order in guard:
            self.assertEqual(run.weaving, order)
        return run

    def test_every_order_of_some_guards(self):
        for guard in ALL_GUARDS:
            for order in all_weavings(guard.lot):
                self.check(guard, order)

    def test_every_order_of_seven_steps(self):
        rng = random.Random("seven")
        for lot in SEVEN:
            self.assertEqual(len(all_weavings(lot)), 210)
            for guard in made_up_guards(lot, rng, 1):
                for order in all_weavings(lot):
                    self.check(guard, order)

    def test_the_unwoven_guard_grants_by_the_first_asks(self):
        for lot in LOTS + SEVEN:
            guard = Guard.unwoven(lot)
            for order in all_weavings(lot):
                firsts = list(dict.fromkeys(order))
                unwoven = tuple(program for program in firsts for _ in range(lot.sizes[program]))
                self.assertEqual(run_order(guard, order).weaving, unwoven)

    def test_the_whole_guard_holds_nothing(self):
        for lot in LOTS:
            for order in all_weavings(lot):
                run = run_order(Guard.whole(lot), order)
                self.assertEqual((run.weaving, run.holds), (order, 0))
                self.assertEqual(run.events, tuple(("granted", program) for program in order))

    def test_the_example_of_the_document(self):
        guard = Guard.greatest(EXAMPLE)
        events = (("granted", 0), ("granted", 1), ("held", 1), ("granted", 0), ("freed", 1))
        self.assertEqual(run_order(guard, (0, 1, 1, 0)), Run((0, 1, 0, 1), 1, events))
        live = Live(guard)
        self.assertEqual([live.ask(0), live.ask(1), live.ask(1)], [Granted(0, 0, ()), Granted(1, 0, ()), Held(1)])
        self.assertEqual(live.way_out(1), (0,))
        self.assertEqual(live.ask(0), Granted(0, 1, (1,)))
        self.assertEqual(live.granted, (0, 1, 0, 1))
        self.assertEqual(run_order(guard, (1, 0, 0, 1)).weaving, (1, 0, 1, 0))
        unwoven = Guard.unwoven(EXAMPLE)
        events = (("granted", 0), ("held", 1), ("granted", 0), ("freed", 1), ("granted", 1))
        self.assertEqual(run_order(unwoven, (0, 1, 1, 0)), Run((0, 0, 1, 1), 1, events))

    def test_bad_weavings(self):
        guard = Guard.unwoven(EXAMPLE)
        for call in (run_order, lambda *told: list(live_events(*told))):
            for wrong in (*OTHER_KINDS, 0, "0011", (0, 0, 1, 2), (0, 0, 1, True)):
                self.refuses(BadWeaving, {"what": "form"}, call, guard, wrong)
            for wrong in ((), (0, 0, 1), [0, 0, 1, 1, 1], (0, 0, 0, 1)):
                self.refuses(BadWeaving, {"what": "length"}, call, guard, wrong)

    def test_nothing_that_is_passed_in_is_changed(self):
        guard, order = Guard.unwoven(EXAMPLE), [0, 1, 1, 0]
        run_order(guard, order)
        list(live_events(guard, order))
        self.assertEqual((guard, order), (Guard.unwoven(EXAMPLE), [0, 1, 1, 0]))

    def test_tuples_throughout(self):
        run = run_order(Guard.unwoven(EXAMPLE), [0, 1, 1, 0])
        self.assertEqual(repr(run.weaving), "(0, 0, 1, 1)")
        self.assertTrue(type(run.events) is tuple and all(type(event) is tuple for event in run.events))


class ResultsTest(GuardCase):
    def test_attributes(self):
        granted = Granted(1, len, "x")
        self.assertEqual((granted.program, granted.place, granted.freed), (1, len, "x"))
        self.assertEqual(Held(len).program, len)
        run = Run(1, len, "x")
        self.assertEqual((run.weaving, run.holds, run.events), (1, len, "x"))

    def test_equal_exactly_if_all_attributes_are(self):
        self.assertEqual(Granted(0, 1, (2,)), Granted(0, 1, (2,)))
        for other in (Granted(1, 1, (2,)), Granted(0, 0, (2,)), Granted(0, 1, ())):
            self.assertTrue(Granted(0, 1, (2,)) != other)
        self.assertEqual(Held(0), Held(0))
        self.assertTrue(Held(0) != Held(1))
        self.assertEqual(Run((0,), 0, ()), Run((0,), 0, ()))
        for other in (Run((1,), 0, ()), Run((0,), 1, ()), Run((0,), 0, ((),))):
            self.assertTrue(Run((0,), 0, ()) != other)
        for other in (*OTHER_KINDS, 0, (), (0,), (0, 1, (2,)), ((0,), 0, ())):
            for result in (Granted(0, 1, (2,)), Held(0), Run((0,), 0, ())):
                self.assertFalse(result == other)
        self.assertFalse(Granted((0,), 0, ()) == Run((0,), 0, ()))
        self.assertFalse(Held(0) == Granted(0, 0, ()))
        self.assertFalse(Run((0,), 0, ()) == Granted((0,), 0, ()))


if __name__ == "__main__":
    unittest.main()
