"""Guards: sets of weavings that hold every unwoven one, and what they let."""

from knownguards.errors import BadGuard, NotAll, UnlikeLots
from knownguards.letting import let_weavings
from knownguards.weavings import all_weavings, check_row, check_weaving, unwoven_weavings
from knownguards.wholes import is_sequence


class Guard:
    """A lot and the weavings of it that are let."""

    def __init__(self, lot, weavings):
        self.lot = lot
        self.weavings = _checked_weavings(lot, weavings)
        self._begun = {
            weaving[:length]: True
            for weaving in self.weavings
            for length in range(len(weaving) + 1)
        }

    def begins(self, row):
        """Tell whether this tuple of programs begins some weaving of the guard."""
        return row in self._begun

    def __len__(self):
        return len(self.weavings)

    def __iter__(self):
        return iter(self.weavings)

    def __contains__(self, weaving):
        return is_sequence(weaving) and tuple(weaving) in self.weavings

    def __eq__(self, other):
        return isinstance(other, Guard) and self.lot == other.lot and self.weavings == other.weavings

    @staticmethod
    def greatest(lot):
        """Return the guard that lets just what the lot lets."""
        return Guard(lot, let_weavings(lot))

    @staticmethod
    def unwoven(lot):
        """Return the guard that lets the unwoven weavings alone."""
        return Guard(lot, unwoven_weavings(lot))

    @staticmethod
    def whole(lot):
        """Return the guard that lets all weavings."""
        return Guard(lot, all_weavings(lot))


def _checked_weavings(lot, weavings):
    """Return the weavings ascending, each once, or raise what is wrong with them."""
    if not is_sequence(weavings):
        raise BadGuard()
    checked = {}
    for weaving in weavings:
        checked[check_weaving(lot, weaving)] = True
    for weaving in unwoven_weavings(lot):
        if weaving not in checked:
            raise NotAll(weaving)
    return tuple(sorted(list(checked)))


def begins_let(guard, row):
    """Tell whether the row begins some weaving of the guard."""
    return guard.begins(check_row(guard.lot, row))


def next_let(guard, row):
    """Return all programs with which the row still begins some weaving of the guard, ascending."""
    checked = check_row(guard.lot, row)
    return tuple([program for program in range(len(guard.lot)) if guard.begins((*checked, program))])


def lets_no_more(guard, other):
    """Return None if the other guard lets each weaving of this one, else the first that it does not let."""
    if guard.lot != other.lot:
        raise UnlikeLots()
    return _first_not_in(guard.weavings, other.weavings)


def judged_guard(guard):
    """Return None if the greatest guard lets each weaving of this one, else the first that it does not let."""
    return _first_not_in(guard.weavings, let_weavings(guard.lot))


def _first_not_in(weavings, others):
    """Return the first of the weavings that is none of the others, None if there is none."""
    for weaving in weavings:
        if weaving not in others:
            return weaving
    return None
