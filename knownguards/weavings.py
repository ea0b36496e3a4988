"""Weavings of a lot and rows of whole programs."""

from math import comb

from knownguards.errors import BadRow, BadSizes, BadWeaving
from knownguards.wholes import is_sequence, is_whole

MOST_SIZES = 9
GREATEST_SIZE = 20


def check_weaving(lot, weaving):
    """Return the weaving as a tuple, or raise BadWeaving."""
    if not is_sequence(weaving) or not all([_is_program(lot, item) for item in weaving]):
        raise BadWeaving("form")
    if any([weaving.count(program) != size for program, size in enumerate(lot.sizes)]):
        raise BadWeaving("length")
    return tuple(weaving)


def check_row(lot, row):
    """Return the row of wholes as a tuple, or raise BadRow."""
    if not is_sequence(row):
        raise BadRow(-1)
    for index, item in enumerate(row):
        if not _is_program(lot, item):
            raise BadRow(index)
    return tuple(row)


def _is_program(lot, thing):
    """Tell whether a thing is the number of a program of the lot."""
    return is_whole(thing, 0, len(lot) - 1)


def weaving_count(sizes):
    """Return how many weavings programs of these sizes have."""
    if not is_sequence(sizes) or not 1 <= len(sizes) <= MOST_SIZES:
        raise BadSizes()
    if not all([is_whole(size, 1, GREATEST_SIZE) for size in sizes]):
        raise BadSizes()
    count = 1
    total = 0
    for size in sizes:
        total = total + size
        # so many ways to lay the steps of this program between those of the programs ahead of it
        count = count * comb(total, size)
    return count


def all_weavings(lot):
    """Return all weavings of the lot, ascending."""
    sizes = lot.sizes
    begun = [()]
    # longer by one program at a time, the least program first: so they stay ascending
    for _ in range(lot.total):
        begun = [
            (*row, program)
            for row in begun
            for program, size in enumerate(sizes)
            if row.count(program) < size
        ]
    return tuple(begun)


def unwoven_weavings(lot):
    """Return the unwoven weavings of the lot, ascending."""
    return tuple([weaving for weaving in all_weavings(lot) if is_unwoven(lot, weaving)])


def is_unwoven(lot, weaving):
    """Tell whether the steps of each program stand together in the weaving."""
    checked = check_weaving(lot, weaving)
    programs = []
    for program in checked:
        if program not in programs:
            programs.append(program)
    return row_weaving(lot, programs) == checked


def row_weaving(lot, row):
    """Return the row of wholes step by step: each program as often as it has steps."""
    return tuple([program for program in check_row(lot, row) for _ in lot.programs[program]])


def placed_steps(lot, weaving):
    """Return the weaving as couples (program, place)."""
    done = [0 for _ in lot]
    placed = []
    for program in check_weaving(lot, weaving):
        placed.append((program, done[program]))
        done[program] += 1
    return tuple(placed)


def weaving_without(lot, weaving, program):
    """Return the weaving of the lot without the program that is left without its steps."""
    checked = check_weaving(lot, weaving)
    # made only for its errors: there is no such program, or no other one
    lot.without_program(program)
    return tuple([other - 1 if other > program else other for other in checked if other != program])
