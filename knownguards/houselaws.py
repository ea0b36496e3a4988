"""Rules of the house in a meaning: sets of stores that each program keeps, and the weavings that are right for them."""

from knownguards.errors import BadStore, BadStores, NotKept, TooMany
from knownguards.leastfacts import check_known
from knownguards.meanings import all_stores, check_meaning, check_store, run_program, run_weaving
from knownguards.searches import states_from
from knownguards.subsets import all_subsets, in_order, is_within
from knownguards.weavings import all_weavings, check_weaving
from knownguards.wholes import is_sequence

MOST_STORES = 9


def check_stores(lot, meaning, stores):
    """Return the rule of these stores, ascending and each once, or raise BadStores."""
    check_meaning(lot, meaning)
    if not is_sequence(stores):
        raise BadStores(-1)
    rule = {}
    for index, store in enumerate(stores):
        try:
            rule[check_store(lot, meaning, store)] = True
        except BadStore:
            raise BadStores(index) from None
    return tuple(sorted(list(rule)))


def rule_fault(lot, meaning, stores):
    """Return None if each program keeps the rule, else the first program that breaks it and the store it leads out."""
    rule = check_stores(lot, meaning, stores)
    for program in range(len(lot)):
        for store in rule:
            if run_program(lot, meaning, program, store) not in rule:
                return program, store
    return None


def right_fault(lot, meaning, stores, weaving):
    """Return None if the weaving is right for the kept rule, else the least store that it leads out."""
    rule = check_stores(lot, meaning, stores)
    checked = check_weaving(lot, weaving)
    _check_kept(lot, meaning, rule)
    return _least_led_out(lot, meaning, rule, checked)


def _check_kept(lot, meaning, rule):
    """Raise NotKept if some program does not keep the rule."""
    fault = rule_fault(lot, meaning, rule)
    if fault is not None:
        program, store = fault
        raise NotKept(program, store)


def _least_led_out(lot, meaning, rule, weaving):
    """Return the least store that the weaving leads out of the rule, None if there is none."""
    for store in rule:
        if run_weaving(lot, meaning, weaving, store) not in rule:
            return store
    return None


def least_rule(lot, meaning, stores, weavings=()):
    """Return the least kept rule that holds the stores and for which these weavings are right."""
    rule = check_stores(lot, meaning, stores)
    closed = _closed_rules(lot, meaning, check_known(lot, weavings))
    # programs and weavings lead each store by itself, so the least rules of single stores make the whole one
    return tuple([store for store in closed if any([store in closed[held] for held in rule])])


def greatest_rule(lot, meaning, stores, weavings=()):
    """Return the greatest kept rule within the stores for which these weavings are right."""
    rule = check_stores(lot, meaning, stores)
    closed = _closed_rules(lot, meaning, check_known(lot, weavings))
    return tuple([store for store in rule if is_within(closed[store], rule)])


def _closed_rules(lot, meaning, weavings):
    """Return for each store, ascending, the least kept rule that holds it and for which these weavings are right."""
    stores = all_stores(lot, meaning.modulus)
    leads = [
        {store: run_program(lot, meaning, program, store) for store in stores}
        for program in range(len(lot))
    ]
    leads.extend([
        {store: run_weaving(lot, meaning, weaving, store) for store in stores}
        for weaving in weavings
    ])
    return {store: states_from(store, len(leads), lambda state, at: leads[at][state]) for store in stores}


def kept_rules(lot, meaning):
    """Yield all kept rules, those with fewer stores first, those of one size ascending."""
    check_meaning(lot, meaning)
    stores = all_stores(lot, meaning.modulus)
    if len(stores) > MOST_STORES:
        raise TooMany(len(stores))
    closed = _closed_rules(lot, meaning, ())
    for rule in all_subsets(stores):
        if all([is_within(closed[store], rule) for store in rule]):
            yield rule


def single_rules(lot, meaning):
    """Return the unlike least rules of one store each, those with fewer stores first, those of one size ascending."""
    check_meaning(lot, meaning)
    closed = _closed_rules(lot, meaning, ())
    unlike = {closed[store]: True for store in closed}
    return tuple(in_order(list(unlike)))


def least_broken(lot, meaning, weaving):
    """Return the kept rules that the weaving breaks and that hold no other such rule, in the order of single_rules."""
    check_meaning(lot, meaning)
    checked = check_weaving(lot, weaving)
    # a rule that is broken from a store holds the least rule of that store, which is broken there, too
    broken = [
        rule
        for rule in single_rules(lot, meaning)
        if _least_led_out(lot, meaning, rule, checked) is not None
    ]
    return tuple([
        rule
        for rule in broken
        if not any([other != rule and is_within(other, rule) for other in broken])
    ])


def right_weavings(lot, meaning, stores):
    """Return all weavings that are right for the kept rule, ascending."""
    rule = check_stores(lot, meaning, stores)
    _check_kept(lot, meaning, rule)
    return tuple([
        weaving
        for weaving in all_weavings(lot)
        if _least_led_out(lot, meaning, rule, weaving) is None
    ])


def brought_along(lot, meaning, weavings):
    """Return all weavings that are right for every kept rule for which these weavings are right, ascending."""
    check_meaning(lot, meaning)
    closed = _closed_rules(lot, meaning, check_known(lot, weavings))
    return tuple([
        weaving
        for weaving in all_weavings(lot)
        if all([run_weaving(lot, meaning, weaving, store) in closed[store] for store in closed])
    ])
