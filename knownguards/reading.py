"""Free worths, read in a meaning."""

from knownguards.meanings import check_meaning, check_store, entry_of


def read_worth(lot, meaning, worth, store):
    """Return what the free worth is in the meaning, from the store."""
    check_meaning(lot, meaning)
    return _read(meaning, worth, check_store(lot, meaning, store))


def read_store(lot, meaning, worths, store):
    """Return what the free worths, one for each cell, are in the meaning, from the store."""
    check_meaning(lot, meaning)
    checked = check_store(lot, meaning, store)
    return tuple([_read(meaning, worth, checked) for worth in worths])


def _read(meaning, worth, store):
    """Return what a free worth is, from a good store."""
    base, bag = worth
    read = store[base[1]] if base[0] == 0 else _read_call(meaning, base[1:], store)
    amounts = [_read_call(meaning, turn, store) for turn in bag]
    return (read + sum(amounts)) % meaning.modulus


def _read_call(meaning, call, store):
    """Return the entry of a name for free worths."""
    name, worths = call
    return entry_of(meaning, name, [_read(meaning, worth, store) for worth in worths])
