"""Judges of what is said to show that a weaving is let or barred."""

from knownguards.errors import BadHouse, BadRow, BadSmallStore
from knownguards.outcomes import outcome_of
from knownguards.searches import are_kept
from knownguards.smallhouses import SmallHouse, check_small, small_begin, small_row, small_run, small_step, told_worths
from knownguards.weavings import check_row, check_weaving
from knownguards.wholes import is_ascending, is_sequence
from knownguards.worths import is_worth


def let_fault(lot, weaving, let):
    """Return None if the row of wholes of let has the outcome of the weaving, else the first word that applies."""
    house = SmallHouse(lot, told_worths(lot, weaving))
    try:
        row = check_row(lot, let.row)
    except BadRow:
        return "row"
    outcome = tuple([house.number_of(worth) for worth in outcome_of(lot, weaving)])
    return None if small_row(house, small_begin(house), row) == outcome else "ends"


def bar_fault(lot, weaving, bar):
    """Return None if the weaving breaks a rule that each program keeps, as bar says, else the first word."""
    checked = check_weaving(lot, weaving)
    if not _are_worths(bar.worths):
        return "worths"
    try:
        house = SmallHouse(lot, bar.worths)
    except BadHouse:
        return "parts"
    try:
        start = check_small(house, bar.start)
        stores = _checked_stores(house, bar.stores)
    except BadSmallStore:
        return "stores"
    if start not in stores:
        return "stores"
    if not are_kept(stores, len(lot), lambda led, program: small_step(house, led, program)):
        return "keeps"
    return "breaks" if small_run(house, start, checked) in stores else None


def _are_worths(thing):
    """Tell whether a thing is a sequence of ascending unlike worths."""
    if not is_sequence(thing) or not all([is_worth(worth) for worth in thing]):
        return False
    return is_ascending(thing)


def _checked_stores(house, stores):
    """Return the ascending unlike small stores as tuples, or raise BadSmallStore."""
    if not is_sequence(stores):
        raise BadSmallStore()
    checked = [check_small(house, store) for store in stores]
    if not is_ascending(checked):
        raise BadSmallStore()
    return checked
