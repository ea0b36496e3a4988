"""Goals that a lot may meet, and mends: the edits of a pool by which it meets them."""

from knownguards.edits import edited_through, has_form
from knownguards.elder import elder_letting
from knownguards.errors import BadEdit, BadGoal, BadMendPool, BadWeaving, TooMany
from knownguards.guards import Guard
from knownguards.letting import is_let
from knownguards.orders import Order
from knownguards.shares import share_of
from knownguards.subsets import all_subsets, least_subsets
from knownguards.weavings import check_weaving, weaving_count
from knownguards.wholes import is_ascending, is_sequence, is_whole

MOST_GOALS = 4
MOST_OF_ROW = 7
HIGHEST_PROGRAM = 2
MOST_EDITS = 6
MOST_WEAVINGS = 90


def check_goals(goals):
    """Return the goals as tuples, or raise BadGoal."""
    if not is_sequence(goals) or not 1 <= len(goals) <= MOST_GOALS:
        raise BadGoal(-1)
    for index, goal in enumerate(goals):
        if not _is_goal(goal):
            raise BadGoal(index)
    return tuple([(word, tuple(row)) for word, row in goals])


def _is_goal(thing):
    """Tell whether a thing is a goal."""
    if not is_sequence(thing) or len(thing) != 2 or not isinstance(thing[0], str) or not is_sequence(thing[1]):
        return False
    word, row = thing
    if word == "share":
        return len(row) == 2 and is_whole(row[0], 0) and is_whole(row[1], 1)
    if word not in ("lets", "bars", "elder"):
        return False
    return len(row) <= MOST_OF_ROW and all([is_whole(item, 0, HIGHEST_PROGRAM) for item in row])


def goal_met(lot, goal):
    """Tell whether the lot meets the goal."""
    word, row = check_goals((goal,))[0]
    if word == "share":
        return _has_share(lot, row)
    try:
        weaving = check_weaving(lot, row)
    except BadWeaving:
        return False
    if word == "elder":
        return isinstance(elder_letting(lot, weaving), Order)
    return is_let(lot, weaving) == (word == "lets")


def _has_share(lot, least):
    """Tell whether the share of the greatest guard is at least this one, or raise TooMany."""
    _check_few(lot)
    top, bottom = share_of(Guard.greatest(lot))
    return top * least[1] >= least[0] * bottom


def _check_few(lot):
    """Raise TooMany if the lot has too many weavings for its share to be found."""
    count = weaving_count(lot.sizes)
    if count > MOST_WEAVINGS:
        raise TooMany(count)


def find_mends(lot, pool, goals):
    """Return all least mends of the lot, shorter ones first, those of one length ascending."""
    checked = _check_search(lot, pool, goals)
    places = list(range(len(pool)))
    return least_subsets(places, lambda chosen: _fault_of(lot, pool, checked, chosen) is None)


def mend_fault(lot, pool, goals, places):
    """Return None if the places are a least mend of the lot, else the first word that applies."""
    checked = _check_search(lot, pool, goals)
    if not _are_places(pool, places):
        return "places"
    fault = _fault_of(lot, pool, checked, places)
    if fault is not None:
        return fault
    # the last of all sets within the places is the places themselves
    for chosen in all_subsets(places)[:-1]:
        if _fault_of(lot, pool, checked, chosen) is None:
            return "least"
    return None


def _check_search(lot, pool, goals):
    """Return the goals as tuples, or raise what is wrong with the pool, the goals or the lot."""
    if not is_sequence(pool) or not 1 <= len(pool) <= MOST_EDITS:
        raise BadMendPool(-1)
    for index, edit in enumerate(pool):
        if not has_form(edit):
            raise BadMendPool(index)
    checked = check_goals(goals)
    if "share" in [word for word, _ in checked]:
        _check_few(lot)
    return checked


def _are_places(pool, thing):
    """Tell whether a thing is a sequence of ascending unlike places of the pool."""
    if not is_sequence(thing) or not all([is_whole(place, 0, len(pool) - 1) for place in thing]):
        return False
    return is_ascending(thing)


def _fault_of(lot, pool, goals, places):
    """Return None if these places of the pool are a mend of the lot, else the first word that applies."""
    try:
        made = edited_through(lot, [pool[place] for place in places])
    except BadEdit:
        return "edits"
    for goal in goals:
        if not goal_met(made, goal):
            return "goal"
    return None
