"""Weavings and rows of wholes, run over free worths."""

from knownguards.errors import TooLong
from knownguards.weavings import check_row, check_weaving
from knownguards.worths import added_worth, begun_store, made_worth

MOST_STEPS_OF_ROW = 14


def outcome_of(lot, weaving):
    """Return the store behind the last step of the weaving."""
    return store_moments(lot, weaving)[-1]


def store_moments(lot, weaving):
    """Return the store at the beginning and then the store behind each step."""
    moments, _ = _run(lot, check_weaving(lot, weaving))
    return tuple(moments)


def pockets_of(lot, weaving):
    """Return the pockets of the steps of each program."""
    _, pockets = _run(lot, check_weaving(lot, weaving))
    return tuple([tuple(row) for row in pockets])


def _run(lot, weaving):
    """Return the stores of all moments and the pockets of each program."""
    store = list(begun_store(lot.cells))
    pockets = [[] for _ in lot]
    moments = [tuple(store)]
    for program in weaving:
        place = len(pockets[program])
        _do_step(lot.programs[program][place], store, pockets[program])
        moments.append(tuple(store))
    return moments, pockets


def _do_step(step, store, pockets):
    """Do one step: put its look behind the pockets of its program and change its cell of the store."""
    cell, kind, goes_by, name = step
    pockets.append(store[cell])
    taken = [pockets[place] for place in goes_by]
    if kind == "any":
        store[cell] = made_worth(name, taken)
    elif kind == "adds":
        store[cell] = added_worth(store[cell], name, taken)


def outcome_of_wholes(lot, row):
    """Return the store behind a row of wholes."""
    checked = check_row(lot, row)
    sizes = lot.sizes
    steps = sum([sizes[program] for program in checked])
    if steps > MOST_STEPS_OF_ROW:
        raise TooLong(steps)
    store = list(begun_store(lot.cells))
    for program in checked:
        pockets = []
        for step in lot.programs[program]:
            _do_step(step, store, pockets)
    return tuple(store)
