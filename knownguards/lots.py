"""Lots: programs over cells."""

from knownguards.errors import BadLot, BadStep, NoProgram, NoStep
from knownguards.steps import NO_NAME, check_step
from knownguards.wholes import is_sequence, is_whole

MOST_CELLS = 3
MOST_PROGRAMS = 3
MOST_STEPS_OF_PROGRAM = 4
MOST_STEPS = 7


def check_program(lot, program):
    """Return the program number, or raise NoProgram if the lot has none of that number."""
    if not is_whole(program, 0, len(lot) - 1):
        raise NoProgram(program)
    return program


def step_of(lot, program, place):
    """Return the step at this place of this program."""
    steps = lot.programs[check_program(lot, program)]
    if not is_whole(place, 0, len(steps) - 1):
        raise NoStep(program, place)
    return steps[place]


def function_shape(step):
    """Return what two steps, neither kept, must have alike to bear one name."""
    cell, kind, goes_by, _ = step
    return kind, len(goes_by), (cell if kind == "adds" else -1)


class Lot:
    """One to three programs over one to three cells, with at most seven steps in all."""

    def __init__(self, cells, programs):
        self.cells = _checked_cells(cells)
        self.programs = _checked_programs(programs, cells)
        _check_pockets(self.programs)
        _check_names(self.programs)

    @property
    def sizes(self):
        """The number of steps of each program."""
        return tuple([len(steps) for steps in self.programs])

    @property
    def total(self):
        """The number of steps of all programs together."""
        return sum([len(steps) for steps in self.programs])

    def renamed(self):
        """Return the lot with the names 0, 1, 2, .. in the order in which they first occur."""
        names = _names_in_order(self.programs)
        programs = [
            [(cell, kind, goes_by, names.get(name, NO_NAME)) for cell, kind, goes_by, name in steps]
            for steps in self.programs
        ]
        return Lot(self.cells, programs)

    def with_program(self, steps):
        """Return the lot with one program more, behind the others."""
        return Lot(self.cells, (*self.programs, steps))

    def without_program(self, program):
        """Return the lot without this program; those behind it get the next lower number."""
        check_program(self, program)
        return Lot(self.cells, self.programs[:program] + self.programs[program + 1:])

    def __eq__(self, other):
        return isinstance(other, Lot) and self.cells == other.cells and self.programs == other.programs

    def __len__(self):
        return len(self.programs)

    def __iter__(self):
        return iter(self.programs)


def _checked_cells(cells):
    """Return the number of cells, or raise BadLot."""
    if not is_whole(cells, 1, MOST_CELLS):
        raise BadLot("cells")
    return cells


def _checked_programs(programs, cells):
    """Return the programs as tuples of good steps, or raise BadLot."""
    if not is_sequence(programs) or not 1 <= len(programs) <= MOST_PROGRAMS:
        raise BadLot("programs")
    for steps in programs:
        if not is_sequence(steps) or not 1 <= len(steps) <= MOST_STEPS_OF_PROGRAM:
            raise BadLot("program")
    if sum([len(steps) for steps in programs]) > MOST_STEPS:
        raise BadLot("many")
    try:
        return tuple([_checked_steps(steps, cells) for steps in programs])
    except BadStep:
        raise BadLot("step") from None


def _checked_steps(steps, cells):
    """Return the steps of one program as tuples, or raise BadStep."""
    return tuple([check_step(step, cells, place) for place, step in enumerate(steps)])


def _check_pockets(programs):
    """Raise BadLot if a step goes by the pocket of an adds."""
    for steps in programs:
        for step in steps:
            if any([steps[place][1] == "adds" for place in step[2]]):
                raise BadLot("pocket")


def _check_names(programs):
    """Raise BadLot if two steps of one name cannot have the same function."""
    shapes = {}
    for steps in programs:
        for step in steps:
            name = step[3]
            if name != NO_NAME and shapes.setdefault(name, function_shape(step)) != function_shape(step):
                raise BadLot("name")


def _names_in_order(programs):
    """Return a number for each name, counted in the order in which the names first occur."""
    names = {}
    for steps in programs:
        for step in steps:
            if step[3] != NO_NAME:
                names.setdefault(step[3], len(names))
    return names
