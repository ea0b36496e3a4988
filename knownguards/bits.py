"""Meanings at the cells floor; meanings of two worths, which are enough there to bar whatever has a ring."""

from knownguards.errors import BadMeaning, BadStore
from knownguards.facts import cells_floor
from knownguards.meanings import (
    Meaning, all_rows, all_stores, check_meaning, check_store, entry_of, run_program, run_weaving,
)
from knownguards.orders import Order, order_for
from knownguards.searches import are_kept
from knownguards.weavings import check_weaving, placed_steps
from knownguards.wholes import is_ascending, is_sequence

BITS = 2
STAYS = (0, 1)
ADDS_ONE = (1, 0)
PUTS_0 = (0, 0)
PUTS_1 = (1, 1)


class BitBar:
    """In this meaning modulo 2 a weaving leads the store out of the stores, into which each program leads them."""

    def __init__(self, meaning, store, stores):
        self.meaning = meaning
        self.store = store
        self.stores = stores

    def __eq__(self, other):
        return (
            isinstance(other, BitBar)
            and self.meaning == other.meaning
            and self.store == other.store
            and self.stores == other.stores
        )


def cells_meaning(lot, meaning):
    """Return the meaning that fits the cells floor, in which each step does what the lot's step does."""
    check_meaning(lot, meaning)
    tables = [
        [_changed(meaning, step, pockets) for pockets in all_rows(meaning.modulus, place + 1)]
        for steps in lot
        for place, step in enumerate(steps)
    ]
    return _meaning_in_order(meaning.modulus, tables)


def _changed(meaning, step, pockets):
    """Return what the step puts when its own pocket is the last and it may go by all of them."""
    _, kind, goes_by, name = step
    if kind == "kept":
        return pockets[-1]
    entry = entry_of(meaning, name, [pockets[place] for place in goes_by])
    if kind == "adds":
        return (pockets[-1] + entry) % meaning.modulus
    return entry


def _meaning_in_order(modulus, tables):
    """Return the meaning with these tables for the names 0, 1, 2, .."""
    return Meaning(modulus, list(enumerate(tables)))


def house_meaning(house):
    """Return the meaning of a House of lengths."""
    return _meaning_in_order(house.modulus, house.tables)


def bit_bar(lot, weaving):
    """Return a BitBar of the weaving if it has a ring at the cells, else None."""
    placed = placed_steps(lot, weaving)
    between = _first_between(lot, placed)
    if between is not None:
        return _bar_of_between(lot, *between)
    found = order_for(cells_floor(lot), weaving)
    if isinstance(found, Order):
        return None
    return _bar_of_ring(lot, found.links)


def _first_between(lot, placed):
    """Return two steps of one program on a cell with a step of another between them there, or None."""
    for index, first in enumerate(placed):
        on_cell = [step for step in placed[index + 1:] if _cell_of(lot, step) == _cell_of(lot, first)]
        for at, between in enumerate(on_cell):
            for last in on_cell[at + 1:]:
                if between[0] != first[0] and last[0] == first[0]:
                    return first, between, last
    return None


def _cell_of(lot, placed):
    """Return the cell of the step that stands at (program, place)."""
    program, place = placed
    return lot.programs[program][place][0]


def _bar_of_between(lot, first, between, last):
    """Return the bar of a weaving in which a step stands between two steps of another program on one cell."""
    cell = _cell_of(lot, first)
    # done whole, the program takes back what it added; the step between takes it away ahead of that
    meaning = _bit_meaning(lot, {first: ADDS_ONE, between: PUTS_0, last: ADDS_ONE})
    stores = tuple([store for store in all_stores(lot, BITS) if store[cell] == 0])
    return BitBar(meaning, stores[0], stores)


def _bar_of_ring(lot, links):
    """Return the bar of a weaving with a ring whose cells are unlike."""
    changes = {}
    cells = []
    for program, place, other, other_place in links:
        changes[(program, place)] = PUTS_0
        changes[(other, other_place)] = PUTS_1
        cells.append(_cell_of(lot, (program, place)))
    # each program of the ring leaves a 0 on one of the cells, the weaving leaves a 1 on each
    stores = tuple([store for store in all_stores(lot, BITS) if 0 in [store[cell] for cell in cells]])
    return BitBar(_bit_meaning(lot, changes), stores[0], stores)


def _bit_meaning(lot, changes):
    """Return the meaning at the floor that changes own pockets so; all other steps put them back."""
    placed = [(program, place) for program, steps in enumerate(lot) for place in range(len(steps))]
    return _meaning_in_order(BITS, [
        [changes.get((program, place), STAYS)[pockets[-1]] for pockets in all_rows(BITS, place + 1)]
        for program, place in placed
    ])


def bit_fault(lot, weaving, bar):
    """Return None if in the meaning the weaving breaks what each program keeps, else the first word that applies."""
    checked = check_weaving(lot, weaving)
    floor = cells_floor(lot)
    meaning = bar.meaning
    if not _fits_bits(floor, meaning):
        return "meaning"
    try:
        store = check_store(floor, meaning, bar.store)
        stores = _checked_stores(floor, meaning, bar.stores)
    except BadStore:
        return "stores"
    if store not in stores:
        return "stores"
    if not are_kept(stores, len(floor), lambda led, program: run_program(floor, meaning, program, led)):
        return "keeps"
    return "breaks" if run_weaving(floor, meaning, checked, store) in stores else None


def _fits_bits(floor, meaning):
    """Tell whether the meaning is one of two worths that fits the floor."""
    try:
        check_meaning(floor, meaning)
    except BadMeaning:
        return False
    return meaning.modulus == BITS


def _checked_stores(lot, meaning, stores):
    """Return the ascending unlike stores as tuples, or raise BadStore."""
    if not is_sequence(stores):
        raise BadStore()
    checked = [check_store(lot, meaning, store) for store in stores]
    if not is_ascending(checked):
        raise BadStore()
    return checked
