"""The greatest guard for what a lot tells: what it lets, with a row of wholes, and what it bars, with a small house."""

from knownguards.facts import with_facts
from knownguards.outcomes import outcome_of
from knownguards.searches import least_row
from knownguards.smallhouses import SmallHouse, small_begin, small_step, stores_from, told_worths
from knownguards.weavings import all_weavings


class Let:
    """A weaving is let: this row of wholes has its outcome."""

    def __init__(self, row):
        self.row = row

    def __eq__(self, other):
        return isinstance(other, Let) and self.row == other.row


class Bar:
    """A weaving is barred: in the small house of these worths it leads from the start out of these stores."""

    def __init__(self, worths, start, stores):
        self.worths = worths
        self.start = start
        self.stores = stores

    def __eq__(self, other):
        return (
            isinstance(other, Bar)
            and self.worths == other.worths
            and self.start == other.start
            and self.stores == other.stores
        )


def letting(lot, weaving):
    """Return Let with the least row of wholes that has the weaving's outcome, or Bar if there is none."""
    house = SmallHouse(lot, told_worths(lot, weaving))
    row = _row_to_end(house, weaving)
    if row is not None:
        return Let(row)
    start = small_begin(house)
    return Bar(house.worths, start, stores_from(house, start))


def is_let(lot, weaving):
    """Tell whether the weaving has the outcome of some row of wholes."""
    return _row_to_end(SmallHouse(lot, told_worths(lot, weaving)), weaving) is not None


def _row_to_end(house, weaving):
    """Return the least row of wholes to the end of the weaving in the house of its worths, None if there is none."""
    # no worth of the outcome is junk in this house, so one small store is one outcome
    goal = tuple([house.number_of(worth) for worth in outcome_of(house.lot, weaving)])
    start = small_begin(house)
    return least_row(start, goal, len(house.lot), lambda store, program: small_step(house, store, program))


def let_weavings(lot):
    """Return all weavings that are let, ascending."""
    return tuple([weaving for weaving in all_weavings(lot) if is_let(lot, weaving)])


def knows_less(lot, facts, more):
    """Return the weavings that are let by more facts but not by these, ascending."""
    with_less = with_facts(lot, facts)
    with_more = with_facts(lot, more)
    return tuple([weaving for weaving in let_weavings(with_more) if not is_let(with_less, weaving)])
