"""The guard at work: programs ask for their steps one by one, and are granted them or held."""

from knownguards.errors import BadAsk, NotHeld
from knownguards.guards import begins_let
from knownguards.weavings import check_weaving
from knownguards.wholes import is_whole


class Granted:
    """An ask was granted: the step at this place of the program; then these held programs were freed."""

    def __init__(self, program, place, freed):
        self.program = program
        self.place = place
        self.freed = freed

    def __eq__(self, other):
        return (
            isinstance(other, Granted)
            and self.program == other.program
            and self.place == other.place
            and self.freed == other.freed
        )


class Held:
    """An ask of this program waits."""

    def __init__(self, program):
        self.program = program

    def __eq__(self, other):
        return isinstance(other, Held) and self.program == other.program


class Run:
    """An order of asking was played: the weaving that was granted, how many asks were held, and all that happened."""

    def __init__(self, weaving, holds, events):
        self.weaving = weaving
        self.holds = holds
        self.events = events

    def __eq__(self, other):
        return (
            isinstance(other, Run)
            and self.weaving == other.weaving
            and self.holds == other.holds
            and self.events == other.events
        )


class Live:
    """A guard at work."""

    def __init__(self, guard):
        self.guard = guard
        self._row = []
        self._waiting = []

    @property
    def granted(self):
        """The row that is granted so far."""
        return tuple(self._row)

    @property
    def held(self):
        """The programs that are held, the eldest first."""
        return tuple(self._waiting)

    @property
    def finished(self):
        """Tell whether all steps of all programs are granted."""
        return len(self._row) == self.guard.lot.total

    def ask(self, program):
        """Ask for the next step of the program: it is granted or held."""
        self._check_ask(program)
        if not self._may_come(program):
            self._waiting.append(program)
            return Held(program)
        place = self._row.count(program)
        self._row.append(program)
        return Granted(program, place, self._free_held())

    def _check_ask(self, program):
        """Raise BadAsk if the program may not ask now."""
        sizes = self.guard.lot.sizes
        if not is_whole(program, 0, len(sizes) - 1):
            raise BadAsk("program")
        if self._row.count(program) == sizes[program]:
            raise BadAsk("finished")
        if program in self._waiting:
            raise BadAsk("held")

    def _may_come(self, program):
        """Tell whether the granted row with this program behind it begins a weaving of the guard."""
        return begins_let(self.guard, (*self._row, program))

    def _free_held(self):
        """Grant what held programs wait for, until none can be granted, and return the programs freed."""
        freed = []
        program = self._eldest_that_may()
        while program is not None:
            self._waiting.remove(program)
            self._row.append(program)
            freed.append(program)
            # what was refused to an elder one may be granted behind this step
            program = self._eldest_that_may()
        return tuple(freed)

    def _eldest_that_may(self):
        """Return the held program that can be granted and has been held for the longest time, or None."""
        for program in self._waiting:
            if self._may_come(program):
                return program
        return None

    def way_out(self, program):
        """Return the shortest, then least, row of other programs behind which the held program can be granted."""
        if not is_whole(program) or program not in self._waiting:
            raise NotHeld(program)
        row = self.granted
        rests = [weaving[len(row):] for weaving in self.guard.weavings if weaving[:len(row)] == row]
        ways = [rest[:rest.index(program)] for rest in rests]
        _, shortest = min([(len(way), way) for way in ways])
        return shortest


def live_events(guard, order):
    """Yield what happens, in order of time, when the order of asking is played."""
    rest = list(check_weaving(guard.lot, order))
    live = Live(guard)
    while rest:
        program = _first_not_held(rest, live.held)
        rest.remove(program)
        told = live.ask(program)
        if isinstance(told, Held):
            yield "held", program
        else:
            yield "granted", program
            for freed in told.freed:
                yield "freed", freed


def _first_not_held(rest, waiting):
    """Return the first program in the rest of an order that does not wait."""
    return [program for program in rest if program not in waiting][0]


def run_order(guard, order):
    """Return the Run of the order of asking."""
    events = tuple(live_events(guard, order))
    weaving = tuple([program for word, program in events if word != "held"])
    return Run(weaving, len(events) - len(weaving), events)
