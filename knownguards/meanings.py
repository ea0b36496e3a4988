"""Meanings: functions given as tables over the whole numbers below a modulus, and what programs do in them."""

from knownguards.errors import BadMeaning, BadStore
from knownguards.lots import check_program
from knownguards.runs import run_steps
from knownguards.weavings import check_row, check_weaving
from knownguards.wholes import is_sequence, is_whole

LEAST_MODULUS = 2
GREATEST_MODULUS = 3
HIGHEST_NAME = 99


class Meaning:
    """A table for each name: its entries are worths, or amounts to be added."""

    def __init__(self, modulus, tables):
        if not is_whole(modulus, LEAST_MODULUS, GREATEST_MODULUS):
            raise BadMeaning("modulus")
        self._by_name = _checked_tables(modulus, tables)
        self.modulus = modulus
        self.tables = tuple([(name, self._by_name[name]) for name in sorted(list(self._by_name))])

    def table_of(self, name):
        """Return the table of this name, None if there is none."""
        return self._by_name.get(name)

    def __eq__(self, other):
        return isinstance(other, Meaning) and self.modulus == other.modulus and self.tables == other.tables


def _checked_tables(modulus, tables):
    """Return the tables by their names, or raise BadMeaning."""
    if not is_sequence(tables):
        raise BadMeaning("tables")
    by_name = {}
    for couple in tables:
        if not is_sequence(couple) or len(couple) != 2:
            raise BadMeaning("name")
        name, table = couple
        if not is_whole(name, 0, HIGHEST_NAME) or name in by_name:
            raise BadMeaning("name")
        if not _is_table(modulus, table):
            raise BadMeaning("table")
        by_name[name] = tuple(table)
    return by_name


def _is_table(modulus, thing):
    """Tell whether a thing is a table of some number of pockets."""
    if not is_sequence(thing) or len(thing) not in _table_lengths(modulus):
        return False
    return all([is_whole(entry, 0, modulus - 1) for entry in thing])


def _table_lengths(modulus):
    """Return how many entries the tables of no pocket to four pockets have."""
    return [modulus ** pockets for pockets in range(5)]


def entry_of(meaning, name, worths):
    """Return the entry of the table of this name for these worths in the pockets."""
    index = 0
    for worth in worths:
        index = index * meaning.modulus + worth
    return meaning.table_of(name)[index]


def check_meaning(lot, meaning):
    """Return the meaning, or raise BadMeaning if it does not fit the lot."""
    lengths = _table_lengths(meaning.modulus)
    for steps in lot:
        for _, kind, goes_by, name in steps:
            if kind != "kept":
                table = meaning.table_of(name)
                if table is None:
                    raise BadMeaning("name")
                if len(table) != lengths[len(goes_by)]:
                    raise BadMeaning("table")
    return meaning


def all_stores(lot, modulus):
    """Return all stores of the lot of worths below the modulus, ascending."""
    return all_rows(modulus, lot.cells)


def all_rows(modulus, length):
    """Return all rows of so many worths below the modulus, ascending."""
    rows = [()]
    for _ in range(length):
        rows = [(*row, worth) for row in rows for worth in range(modulus)]
    return tuple(rows)


def check_store(lot, meaning, store):
    """Return the store as a tuple, or raise BadStore."""
    if not is_sequence(store) or len(store) != lot.cells:
        raise BadStore()
    if not all([is_whole(worth, 0, meaning.modulus - 1) for worth in store]):
        raise BadStore()
    return tuple(store)


def run_weaving(lot, meaning, weaving, store):
    """Return the store behind all steps of the weaving."""
    return run_moments(lot, meaning, weaving, store)[-1]


def run_moments(lot, meaning, weaving, store):
    """Return the store that is given and then the store behind each step of the weaving."""
    check_meaning(lot, meaning)
    checked = check_weaving(lot, weaving)
    return tuple(_moments(lot, meaning, checked, check_store(lot, meaning, store)))


def run_program(lot, meaning, program, store):
    """Return the store behind this program, done whole."""
    check_meaning(lot, meaning)
    check_program(lot, program)
    return _whole(lot, meaning, program, check_store(lot, meaning, store))


def run_wholes(lot, meaning, row, store):
    """Return the store behind the row of wholes."""
    check_meaning(lot, meaning)
    checked = check_row(lot, row)
    led = check_store(lot, meaning, store)
    for program in checked:
        led = _whole(lot, meaning, program, led)
    return led


def _whole(lot, meaning, program, store):
    """Return the store behind a program that is done whole."""
    return _moments(lot, meaning, [program] * len(lot.programs[program]), store)[-1]


def _moments(lot, meaning, programs, store):
    """Return the stores of all moments when the next steps of these programs are done."""
    moments, _ = run_steps(
        lot, programs, store,
        lambda name, worths: entry_of(meaning, name, worths),
        lambda worth, name, turned_by: (worth + entry_of(meaning, name, turned_by)) % meaning.modulus,
    )
    return moments
