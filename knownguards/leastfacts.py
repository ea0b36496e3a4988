"""Least facts: the sets of facts over the cells floor by which weavings are let, and those that leave them barred."""

from knownguards.errors import BadPool, BadWeaving, BadWish, TooMany
from knownguards.facts import cells_floor, is_fact, with_facts
from knownguards.letting import is_let, let_weavings
from knownguards.subsets import all_subsets, greatest_subsets, is_within, least_subsets
from knownguards.weavings import check_weaving, weaving_count
from knownguards.wholes import is_sequence

MOST_OF_POOL = 8
MOST_OF_WISH = 6
MOST_LETTINGS = 2000


def check_pool(lot, pool):
    """Return the facts of the pool, ascending and each once, or raise BadPool."""
    if not is_sequence(pool) or len(pool) > MOST_OF_POOL:
        raise BadPool(-1)
    facts = {}
    for index, item in enumerate(pool):
        if not is_fact(lot, item) or item[0] == "same" or any([_clash(item, fact) for fact in facts]):
            raise BadPool(index)
        facts[tuple(item)] = True
    return tuple(sorted(list(facts)))


def _clash(fact, other):
    """Tell whether two facts tell unlike things of what one step does with its own pocket."""
    if (fact[1], fact[2]) != (other[1], other[2]):
        return False
    word = _word_of_own(fact)
    other_word = _word_of_own(other)
    return word is not None and other_word is not None and word != other_word


def _word_of_own(fact):
    """Return the word of the fact if it tells what the step does with its own pocket, else None."""
    if fact[0] == "without" and fact[3] != fact[2]:
        return None
    return fact[0]


def check_wish(lot, wish):
    """Return the weavings of the wish, or raise BadWish."""
    if is_sequence(wish) and len(wish) == 0:
        raise BadWish(-1)
    return check_known(lot, wish)


def check_known(lot, weavings):
    """Return the weavings that are known to be right, perhaps none, or raise BadWish."""
    if not is_sequence(weavings) or len(weavings) > MOST_OF_WISH:
        raise BadWish(-1)
    checked = []
    for index, weaving in enumerate(weavings):
        try:
            checked.append(check_weaving(lot, weaving))
        except BadWeaving:
            raise BadWish(index) from None
    return tuple(checked)


def facts_let(lot, facts, wish):
    """Tell whether the facts let each weaving of the wish."""
    pool = check_pool(lot, facts)
    return _lets(lot, pool, check_wish(lot, wish))


def _lets(lot, facts, weavings):
    """Tell whether good facts let each of these weavings."""
    told = _lot_told(lot, facts)
    return all([is_let(told, weaving) for weaving in weavings])


def _lot_told(lot, facts):
    """Return the lot that has just these facts over the cells floor."""
    return with_facts(cells_floor(lot), facts)


def least_facts(lot, pool, wish):
    """Return all least sets of the pool that let the wish."""
    facts = check_pool(lot, pool)
    weavings = check_wish(lot, wish)
    return least_subsets(facts, lambda chosen: _lets(lot, chosen, weavings))


def barring_facts(lot, pool, wish):
    """Return all greatest sets of the pool that do not let the wish."""
    facts = check_pool(lot, pool)
    weavings = check_wish(lot, wish)
    return greatest_subsets(facts, lambda chosen: not _lets(lot, chosen, weavings))


def facts_fault(lot, facts, wish):
    """Return None if the facts are a least set that lets the wish, else the first word that applies."""
    pool = check_pool(lot, facts)
    weavings = check_wish(lot, wish)
    if not _lets(lot, pool, weavings):
        return "lets"
    if any([_lets(lot, _without(pool, fact), weavings) for fact in pool]):
        return "least"
    return None


def _without(facts, left_out):
    """Return the facts without this one."""
    return tuple([fact for fact in facts if fact != left_out])


def same_let(lot, one, other):
    """Return None if the two pools let the same weavings, else the first that only one of them lets."""
    let = _let_by(lot, check_pool(lot, one))
    other_let = _let_by(lot, check_pool(lot, other))
    unlike = [weaving for weaving in let if weaving not in other_let]
    unlike.extend([weaving for weaving in other_let if weaving not in let])
    return min(unlike, default=None)


def _let_by(lot, facts):
    """Return all weavings that good facts let, ascending."""
    return let_weavings(_lot_told(lot, facts))


def idle_facts(lot, pool):
    """Return the facts of the pool that never let a weaving which is not let without them."""
    facts = check_pool(lot, pool)
    let = _let_by_each(lot, facts)
    return tuple([fact for fact in facts if not _ever_lets(let, fact)])


def _let_by_each(lot, facts):
    """Return for each set of good facts all weavings that it lets, or raise TooMany."""
    chosen_sets = all_subsets(facts)
    count = weaving_count(lot.sizes) * len(chosen_sets)
    if count > MOST_LETTINGS:
        raise TooMany(count)
    return {chosen: _let_by(lot, chosen) for chosen in chosen_sets}


def _ever_lets(let, fact):
    """Tell whether some set, by what each set lets, lets more with the fact than without it."""
    return any([fact in chosen and let[chosen] != let[_without(chosen, fact)] for chosen in let])


def fullest_facts(lot, pool, facts):
    """Return all greatest sets of the pool that hold the facts and let the same weavings as these."""
    whole = check_pool(lot, pool)
    least = _check_chosen(lot, whole, facts)
    let = _let_by_each(lot, whole)
    return greatest_subsets(whole, lambda chosen: is_within(least, chosen) and let[chosen] == let[least])


def _check_chosen(lot, pool, facts):
    """Return the facts of a good pool ascending, each once, or raise BadPool."""
    if not is_sequence(facts):
        raise BadPool(-1)
    for index, item in enumerate(facts):
        # True is no 1, but equal to it, so the form is looked at first
        if not is_fact(lot, item) or tuple(item) not in pool:
            raise BadPool(index)
    chosen = [tuple(item) for item in facts]
    return tuple([fact for fact in pool if fact in chosen])
