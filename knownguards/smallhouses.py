"""Small houses: a lot with a closed set of free worths, each of which has a number; junk is every other worth."""

from knownguards.errors import BadHouse, BadSmallStore
from knownguards.lots import check_program
from knownguards.outcomes import store_moments
from knownguards.runs import run_steps
from knownguards.searches import states_from
from knownguards.weavings import check_row, check_weaving
from knownguards.wholes import is_sequence, is_whole
from knownguards.worths import bags_within, begun_store, closed_worths, each_once, is_worth, parts_of


def told_worths(lot, weaving):
    """Return the least closed set of all worths that the cells hold at any moment, ascending."""
    return closed_worths([worth for store in store_moments(lot, weaving) for worth in store])


class SmallHouse:
    """A lot with a closed set of worths: number k stands for worths[k], the number junk for any other worth."""

    def __init__(self, lot, worths):
        self.lot = lot
        self.worths = _checked_worths(worths)
        self.junk = len(self.worths)
        self._made = {}
        self._added = {}
        for number, (base, bag) in enumerate(self.worths):
            if base[0] == 1 and not bag:
                name, made_of = base[1:]
                self._made[(name, self._numbers_of(made_of))] = number
            for at, (name, turned_by) in enumerate(bag):
                before = self.number_of((base, bag[:at] + bag[at + 1:]))
                self._added[(before, name, self._numbers_of(turned_by))] = number

    def _numbers_of(self, worths):
        """Return the number of each of the worths."""
        return tuple([self.number_of(worth) for worth in worths])

    def number_of(self, worth):
        """Return the number of the worth, or junk."""
        return _number_in(self.worths, worth)

    def made_number(self, name, numbers):
        """Return the number of what the function of this name makes of the worths of these numbers."""
        return self._made.get((name, tuple(numbers)), self.junk)

    def added_number(self, number, name, numbers):
        """Return the number of a worth with the turn of this name and of the worths of these numbers more."""
        return self._added.get((number, name, tuple(numbers)), self.junk)


def _checked_worths(worths):
    """Return the worths ascending, each once, or raise BadHouse."""
    if not is_sequence(worths) or not all([is_worth(worth) for worth in worths]):
        raise BadHouse(None)
    ascending = each_once(worths)
    for worth in ascending:
        needed = parts_of(worth) + bags_within(worth)
        if any([_number_in(ascending, part) == len(ascending) for part in needed]):
            raise BadHouse(worth)
    return tuple(ascending)


def _number_in(ascending, worth):
    """Return the index of the worth in ascending unlike worths, or how many these are."""
    low = 0
    high = len(ascending)
    while low < high:
        middle = (low + high) // 2
        if ascending[middle] < worth:
            low = middle + 1
        else:
            high = middle
    if low < len(ascending) and ascending[low] == worth:
        return low
    return len(ascending)


def check_small(house, store):
    """Return the small store as a tuple, or raise BadSmallStore."""
    if not is_sequence(store) or len(store) != house.lot.cells:
        raise BadSmallStore()
    if not all([is_whole(number, 0, house.junk) for number in store]):
        raise BadSmallStore()
    return tuple(store)


def small_begin(house):
    """Return the numbers of the begun worths of the cells."""
    return tuple([house.number_of(worth) for worth in begun_store(house.lot.cells)])


def small_step(house, store, program):
    """Return the small store when this program has been done whole."""
    checked = check_small(house, store)
    return _whole(house, checked, check_program(house.lot, program))


def small_run(house, store, weaving):
    """Return the small store when the weaving has been done."""
    checked = check_small(house, store)
    return _run(house, checked, check_weaving(house.lot, weaving))


def small_row(house, store, row):
    """Return the small store when the row of wholes has been done."""
    checked = check_small(house, store)
    for program in check_row(house.lot, row):
        checked = _whole(house, checked, program)
    return checked


def stores_from(house, store):
    """Return all small stores to which rows of wholes lead from this one, ascending."""
    checked = check_small(house, store)
    return states_from(checked, len(house.lot), lambda state, program: _whole(house, state, program))


def _whole(house, store, program):
    """Return the small store when a program has been done whole."""
    return _run(house, store, [program] * len(house.lot.programs[program]))


def _run(house, store, programs):
    """Return the small store when the next steps of these programs have been done."""
    moments, _ = run_steps(
        house.lot, programs, store,
        lambda name, numbers: house.made_number(name, numbers),
        lambda number, name, turned_by: house.added_number(number, name, turned_by),
    )
    return moments[-1]
