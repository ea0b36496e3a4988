"""Weavings and rows of wholes, run over free worths."""

from knownguards.errors import TooLong
from knownguards.runs import run_steps
from knownguards.weavings import check_row, check_weaving
from knownguards.worths import added_worth, begun_store, made_worth

MOST_STEPS_OF_ROW = 14


def outcome_of(lot, weaving):
    """Return the store behind the last step of the weaving."""
    return store_moments(lot, weaving)[-1]


def store_moments(lot, weaving):
    """Return the store at the beginning and then the store behind each step."""
    moments, _ = _run(lot, check_weaving(lot, weaving), begun_store(lot.cells))
    return tuple(moments)


def pockets_of(lot, weaving):
    """Return the pockets of the steps of each program."""
    _, pockets = _run(lot, check_weaving(lot, weaving), begun_store(lot.cells))
    return tuple([tuple(row) for row in pockets])


def _run(lot, programs, store):
    """Return the stores of all moments and the pockets of each program."""
    return run_steps(lot, programs, store, made_worth, added_worth)


def outcome_of_wholes(lot, row):
    """Return the store behind a row of wholes."""
    checked = check_row(lot, row)
    sizes = lot.sizes
    steps = sum([sizes[program] for program in checked])
    if steps > MOST_STEPS_OF_ROW:
        raise TooLong(steps)
    store = begun_store(lot.cells)
    for program in checked:
        moments, _ = _run(lot, [program] * sizes[program], store)
        store = moments[-1]
    return store
