"""Closed lots, and the greatest guard for a meaning that is told while the rule of the house is unknown."""

from knownguards.errors import TooMany
from knownguards.meanings import all_stores, check_meaning, check_store, run_program, run_weaving
from knownguards.searches import least_row, states_from
from knownguards.weavings import all_weavings, check_weaving

MOST_STORES = 4


class Ends:
    """A weaving is let: by these rows of wholes, one for each store, it ends in the closed lot of the store."""

    def __init__(self, rows):
        self.rows = rows

    def __eq__(self, other):
        return isinstance(other, Ends) and self.rows == other.rows


class Breaks:
    """A weaving is not let: from this store it ends outside of these stores, the closed lot."""

    def __init__(self, store, stores):
        self.store = store
        self.stores = stores

    def __eq__(self, other):
        return isinstance(other, Breaks) and self.store == other.store and self.stores == other.stores


def closed_lot(lot, meaning, store):
    """Return all stores to which rows of wholes lead this one, ascending."""
    check_meaning(lot, meaning)
    checked = check_store(lot, meaning, store)
    return states_from(checked, len(lot), lambda state, program: run_program(lot, meaning, program, state))


def way_to(lot, meaning, store, goal):
    """Return the shortest row of wholes, and of these the least, from store to goal, None if there is none."""
    check_meaning(lot, meaning)
    start = check_store(lot, meaning, store)
    end = check_store(lot, meaning, goal)
    return least_row(start, end, len(lot), lambda state, program: run_program(lot, meaning, program, state))


def lets_under(lot, meaning, weaving):
    """Return Ends if the weaving ends in the closed lot of each store, else Breaks with the first store."""
    check_meaning(lot, meaning)
    checked = check_weaving(lot, weaving)
    rows = []
    for store in all_stores(lot, meaning.modulus):
        row = way_to(lot, meaning, store, run_weaving(lot, meaning, checked, store))
        if row is None:
            return Breaks(store, closed_lot(lot, meaning, store))
        rows.append(row)
    return Ends(tuple(rows))


def let_under(lot, meaning):
    """Return all weavings that end in the closed lot of each store, ascending."""
    check_meaning(lot, meaning)
    closed = {store: closed_lot(lot, meaning, store) for store in all_stores(lot, meaning.modulus)}
    return tuple([
        weaving
        for weaving in all_weavings(lot)
        if all([run_weaving(lot, meaning, weaving, store) in closed[store] for store in closed])
    ])


def one_row(lot, meaning, weaving):
    """Return the least row of wholes that ends where the weaving ends, the same from all stores, or None."""
    check_meaning(lot, meaning)
    checked = check_weaving(lot, weaving)
    stores = all_stores(lot, meaning.modulus)
    if len(stores) > MOST_STORES:
        raise TooMany(len(stores))
    ends = tuple([run_weaving(lot, meaning, checked, store) for store in stores])
    return least_row(stores, ends, len(lot), lambda led, program: _all_led(lot, meaning, led, program))


def _all_led(lot, meaning, stores, program):
    """Return the store to which the program leads each of the stores."""
    return tuple([run_program(lot, meaning, program, store) for store in stores])
