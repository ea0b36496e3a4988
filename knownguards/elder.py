"""A store that keeps elder worths: what orders of whole programs let by it, and what it hands out."""

from knownguards.errors import LateLook
from knownguards.orders import Order, check_order, rows_of_all, walk_by
from knownguards.sources import counted_looks, find_sources, last_sources
from knownguards.weavings import all_weavings, check_weaving, placed_steps, row_weaving
from knownguards.worths import added_worth, begun_store, made_worth


class EveryLate:
    """No order lets a weaving: for each of all orders a look that is late by it."""

    def __init__(self, looks):
        self.looks = looks

    def __eq__(self, other):
        return isinstance(other, EveryLate) and self.looks == other.looks


class FewestElder:
    """The order that lets a weaving with the fewest elder looks, and these looks."""

    def __init__(self, programs, looks):
        self.programs = programs
        self.looks = looks

    def __eq__(self, other):
        return isinstance(other, FewestElder) and self.programs == other.programs and self.looks == other.looks


def late_look(lot, weaving, order):
    """Return the late look that stands first in the weaving, None if the order lets the weaving."""
    placed = placed_steps(lot, weaving)
    return _first_late(placed, _sources_by(lot, check_order(lot, order)))


def _sources_by(lot, order):
    """Return the sources by the order of each look that counts."""
    unwoven = row_weaving(lot, order)
    return {(program, place): find_sources(lot, unwoven, program, place) for program, place in counted_looks(lot)}


def _first_late(placed, sources):
    """Return the first of the placed steps that stands ahead of one of its sources, None if there is none."""
    for at, look in enumerate(placed):
        # a look that does not count has no sources here
        if not all([source in placed[:at] for source in sources.get(look, ())]):
            return look
    return None


def elder_letting(lot, weaving):
    """Return Order with the least order that lets the weaving, or EveryLate."""
    looks = []
    for order in rows_of_all(lot):
        late = late_look(lot, weaving, order)
        if late is None:
            return Order(order)
        looks.append((order, late))
    return EveryLate(tuple(looks))


def elder_weavings(lot):
    """Return all weavings that some order lets, ascending."""
    return tuple([weaving for weaving in all_weavings(lot) if isinstance(elder_letting(lot, weaving), Order)])


def weavings_of_order(lot, order):
    """Yield the weavings that this order lets, ascending."""
    sources = _sources_by(lot, check_order(lot, order))
    for weaving in all_weavings(lot):
        if _first_late(placed_steps(lot, weaving), sources) is None:
            yield weaving


def _check_no_late(lot, weaving, order):
    """Raise LateLook if the order does not let the weaving."""
    late = late_look(lot, weaving, order)
    if late is not None:
        program, place = late
        raise LateLook(program, place)


def elder_pockets(lot, weaving, order):
    """Return for each program the pockets that the store hands out, None for looks that do not count."""
    _check_no_late(lot, weaving, order)
    pockets, _ = _run(lot, weaving, order)
    return tuple([
        tuple([pockets.get((program, place)) for place in range(size)])
        for program, size in enumerate(lot.sizes)
    ])


def elder_final(lot, weaving, order):
    """Return the store that is left when the store is asked as behind the order's unwoven weaving."""
    _check_no_late(lot, weaving, order)
    _, calls = _run(lot, weaving, order)
    sources = last_sources(lot, row_weaving(lot, order))
    return tuple([
        _handed_out(lot, begun, sources[cell], calls)
        for cell, begun in enumerate(begun_store(lot.cells))
    ])


def _run(lot, weaving, order):
    """Return the pockets of the looks that count, and for each step its name and the worths that it goes by."""
    sources = _sources_by(lot, order)
    begun = begun_store(lot.cells)
    pockets = {}
    calls = {}
    for program, place in placed_steps(lot, weaving):
        cell, _, goes_by, name = lot.programs[program][place]
        if (program, place) in sources:
            pockets[(program, place)] = _handed_out(lot, begun[cell], sources[(program, place)], calls)
        calls[(program, place)] = (name, [pockets[(program, other)] for other in goes_by])
    return pockets, calls


def _handed_out(lot, begun, sources, calls):
    """Return what the last any among the sources has put, or the begun worth, with the turns of the adds."""
    worth = begun
    turns = []
    for program, place in sources:
        name, worths = calls[(program, place)]
        if lot.programs[program][place][1] == "any":
            worth = made_worth(name, worths)
        else:
            turns.append((name, worths))
    for name, worths in turns:
        worth = added_worth(worth, name, worths)
    return worth


def elder_looks(lot, weaving, order):
    """Return the looks that count whose sources by the order are not those in the weaving, ascending."""
    _check_no_late(lot, weaving, order)
    sources = _sources_by(lot, order)
    return tuple([
        (program, place)
        for program, place in counted_looks(lot)
        if sources[(program, place)] != find_sources(lot, weaving, program, place)
    ])


def fewest_elder(lot, weaving):
    """Return FewestElder of the orders that let the weaving, or EveryLate if there is none."""
    found = elder_letting(lot, weaving)
    if isinstance(found, EveryLate):
        return found
    choices = []
    for order in rows_of_all(lot):
        if late_look(lot, weaving, order) is None:
            looks = elder_looks(lot, weaving, order)
            choices.append((len(looks), order, looks))
    _, programs, looks = min(choices)
    return FewestElder(programs, looks)


def elder_walk(lot, weaving, order):
    """Return the weavings from this one to the order's unwoven one, by exchanges nearest to the beginning."""
    _check_no_late(lot, weaving, order)
    return walk_by(check_weaving(lot, weaving), order)
