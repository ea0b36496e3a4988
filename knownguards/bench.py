"""The bench: a lot that edits change, one after another, and that takes them back."""

from knownguards.edits import edited_lot, edited_through
from knownguards.errors import NothingMade
from knownguards.mends import check_goals, goal_met


class Bench:
    """A lot, the edits that stand, and the lot behind each of them."""

    def __init__(self, lot):
        self._lots = [lot]
        self._edits = []

    @property
    def current(self):
        """The present lot."""
        return self._lots[-1]

    @property
    def log(self):
        """The edits that stand, the first made first."""
        return tuple(self._edits)

    def __len__(self):
        return len(self._edits)

    def __iter__(self):
        return iter(self._edits)

    def make(self, edit):
        """Make the edit and return the new lot."""
        made = edited_lot(self._lots[-1], edit)
        self._edits.append(_in_tuples(edit))
        self._lots.append(made)
        return made

    def take_back(self):
        """Take the last edit back and return it."""
        if not self._edits:
            raise NothingMade()
        self._lots.pop()
        return self._edits.pop()

    def trial(self, edits, goals):
        """Return for each goal whether the lot that the edits would make meets it."""
        checked = check_goals(goals)
        made = edited_through(self._lots[-1], edits)
        return tuple([goal_met(made, goal) for goal in checked])

    def lots_made(self):
        """Yield the first lot and then the lot behind each edit that stands."""
        for lot in self._lots:
            yield lot


def _in_tuples(edit):
    """Return a good edit as a tuple, its step or its fact, too."""
    word, *told = edit
    if word == "fact":
        return word, tuple(told[0])
    if word == "step":
        program, place, (cell, kind, goes_by, name) = told
        return word, program, place, (cell, kind, tuple(goes_by), name)
    return tuple(edit)
