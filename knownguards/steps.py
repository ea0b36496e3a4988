"""One step of a program: (cell, kind, goes_by, name)."""

from knownguards.errors import BadStep
from knownguards.wholes import is_sequence, is_whole

KINDS = ("any", "kept", "adds")
HIGHEST_NAME = 99
NO_NAME = -1


def check_step(step, cells, place):
    """Return the step at this place of a program over so many cells as a tuple, or raise BadStep."""
    if not is_sequence(step) or len(step) != 4:
        raise BadStep("form")
    cell, kind, goes_by, name = step
    if not is_whole(cell, 0, cells - 1):
        raise BadStep("cell")
    if not isinstance(kind, str) or kind not in KINDS:
        raise BadStep("kind")
    if not _may_go_by(goes_by, kind, place):
        raise BadStep("goes by")
    if not _may_be_called(name, kind):
        raise BadStep("name")
    return cell, kind, tuple(goes_by), name


def _may_go_by(goes_by, kind, place):
    """Tell whether a step of this kind at this place may go by these places."""
    if not is_sequence(goes_by):
        return False
    highest = _highest_place(kind, place)
    lowest = 0
    for other in goes_by:
        if not is_whole(other, lowest, highest):
            return False
        lowest = other + 1
    return True


def _highest_place(kind, place):
    """Return the highest place that a step of this kind may go by, -1 if there is none."""
    if kind == "kept":
        return -1
    if kind == "adds":
        return place - 1
    return place


def _may_be_called(name, kind):
    """Tell whether a step of this kind may bear this name."""
    if kind == "kept":
        return is_whole(name, NO_NAME, NO_NAME)
    return is_whole(name, 0, HIGHEST_NAME)
