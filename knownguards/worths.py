"""Free worths: what a cell holds when nothing is known of the functions."""

from knownguards.wholes import is_whole

HIGHEST_CELL = 2
HIGHEST_NAME = 99
MOST_POCKETS = 4


def is_worth(thing):
    """Tell whether a thing is a worth."""
    bags = []
    waiting = [thing]
    while waiting:
        worth = waiting.pop()
        if not _has_form(worth):
            return False
        bags.append(worth[1])
        waiting.extend(_held_worths(worth))
    # turns can be compared only when all that stands in them is known to be worths
    return all([_is_ascending(bag) for bag in bags])


def _has_form(thing):
    """Tell whether a thing is a worth, if what should be worths in it are taken for such."""
    if not isinstance(thing, tuple) or len(thing) != 2:
        return False
    base, bag = thing
    return _is_base(base) and isinstance(bag, tuple) and all([_is_turn(turn) for turn in bag])


def _is_base(thing):
    """Tell whether a thing is a base, if what should be worths in it are taken for such."""
    if not isinstance(thing, tuple) or len(thing) < 2:
        return False
    if is_whole(thing[0], 0, 0):
        return len(thing) == 2 and is_whole(thing[1], 0, HIGHEST_CELL)
    return is_whole(thing[0], 1, 1) and _is_turn(thing[1:])


def _is_turn(thing):
    """Tell whether a thing is (name, worths), if what should be worths in it are taken for such."""
    if not isinstance(thing, tuple) or len(thing) != 2:
        return False
    name, worths = thing
    return is_whole(name, 0, HIGHEST_NAME) and isinstance(worths, tuple) and len(worths) <= MOST_POCKETS


def _is_ascending(bag):
    """Tell whether the turns of a bag are in order."""
    return all([turn <= following for turn, following in zip(bag, bag[1:])])


def begun_store(cells):
    """Return the store at the beginning."""
    return tuple([((0, cell), ()) for cell in range(cells)])


def made_worth(name, worths):
    """Return what the function of this name makes of these worths."""
    return (1, name, tuple(worths)), ()


def added_worth(worth, name, worths):
    """Return the worth with one turn more in its bag."""
    base, bag = worth
    return base, tuple(sorted([*bag, (name, tuple(worths))]))


def parts_of(worth):
    """Return all worths that stand directly in the base or in a turn, ascending, each once."""
    return tuple(each_once(_held_worths(worth)))


def _held_worths(worth):
    """Return all worths that stand directly in the base, then in the turns."""
    base, bag = worth
    calls = list(bag)
    if base[0] == 1:
        calls = [base[1:], *bag]
    return [held for _, worths in calls for held in worths]


def each_once(things):
    """Return the things ascending, each once."""
    # things may be nested too deep for a set, so equal ones are found as neighbours
    unlike = []
    for thing in sorted(things):
        if not unlike or unlike[-1] != thing:
            unlike.append(thing)
    return unlike


def bags_within(worth):
    """Return all worths of the same base with a part of the bag, ascending, each once."""
    base, bag = worth
    parts = [()]
    for turn in bag:
        parts = each_once(parts + [(*part, turn) for part in parts])
    return tuple([(base, part) for part in parts])


def closed_worths(worths):
    """Return the least closed set that has all these worths, ascending, each once."""
    layer = each_once(worths)
    whole = layer
    while layer:
        layer = each_once([part for worth in layer for part in parts_of(worth)])
        whole = each_once(whole + layer)
    # a lesser bag has no parts that the whole bag has not, so these need no further round
    return tuple(each_once([lesser for worth in whole for lesser in bags_within(worth)]))


def worth_text(worth):
    """Return the text of the worth."""
    base, bag = worth
    text = f"b{base[1]}" if base[0] == 0 else _call_text(base[1:])
    return text + "".join([" + " + _call_text(turn) for turn in bag])


def _call_text(call):
    """Return the text of a name and its worths."""
    name, worths = call
    texts = ", ".join([worth_text(worth) for worth in worths])
    return f"{name}({texts})"
