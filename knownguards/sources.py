"""Looks that count, and the steps whose putting a look finds."""

from knownguards.lots import step_of
from knownguards.weavings import placed_steps


def counted_looks(lot):
    """Return the looks that some step of their program goes by, ascending."""
    return tuple([
        (program, place)
        for program, steps in enumerate(lot)
        for place in range(len(steps))
        if any([place in step[2] for step in steps])
    ])


def find_sources(lot, weaving, program, place):
    """Return the sources of this step in the weaving, ascending."""
    placed = placed_steps(lot, weaving)
    cell = step_of(lot, program, place)[0]
    return _sources_among(lot, placed[:placed.index((program, place))], cell)


def last_sources(lot, weaving):
    """Return for each cell the sources that a look behind the whole weaving has."""
    placed = placed_steps(lot, weaving)
    return tuple([_sources_among(lot, placed, cell) for cell in range(lot.cells)])


def _sources_among(lot, placed, cell):
    """Return those of the placed steps that made what the cell holds behind them, ascending."""
    sources = []
    for program, place in placed:
        step = lot.programs[program][place]
        if step[0] == cell and step[1] == "any":
            sources = [(program, place)]
        elif step[0] == cell and step[1] == "adds":
            sources.append((program, place))
    return tuple(sorted(sources))
