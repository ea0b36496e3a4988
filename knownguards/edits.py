"""Edits of a lot: a step replaced, left out or exchanged with the next one, and a fact taken in."""

from knownguards.errors import BadEdit, BadFact, BadLot, BadStep
from knownguards.facts import with_facts
from knownguards.lots import Lot
from knownguards.steps import check_step
from knownguards.wholes import is_sequence, is_whole

LENGTHS = {"step": 4, "drop": 3, "fact": 2, "swap": 3}


def edited_lot(lot, edit):
    """Return the lot that the edit makes of this one."""
    if not has_form(edit):
        raise BadEdit(0, "kind")
    try:
        if edit[0] == "fact":
            return with_facts(lot, (edit[1],))
        return Lot(lot.cells, _edited_programs(lot, edit))
    except BadFact:
        raise BadEdit(0, "fact") from None
    except BadStep:
        raise BadEdit(0, "step") from None
    except BadLot:
        raise BadEdit(0, "lot") from None


def edited_through(lot, edits):
    """Return the lot that comes when the edits are made one after another."""
    if not is_sequence(edits):
        raise BadEdit(-1, "kind")
    made = lot
    for index, edit in enumerate(edits):
        try:
            made = edited_lot(made, edit)
        except BadEdit as refused:
            raise BadEdit(index, refused.what) from None
    return made


def has_form(edit):
    """Tell whether a thing has the first word and the length of an edit."""
    if not is_sequence(edit) or len(edit) == 0 or not isinstance(edit[0], str):
        return False
    return LENGTHS.get(edit[0]) == len(edit)


def _edited_programs(lot, edit):
    """Return the programs of the lot, changed by an edit that is no fact; what comes may be no Lot."""
    _check_place(lot, edit)
    word, program, place, *step = edit
    steps = lot.programs[program]
    if word == "step":
        edited = _with_step(steps, place, check_step(step[0], lot.cells, place))
    elif word == "drop":
        edited = _dropped(steps, place)
    else:
        edited = _swapped(steps, place)
    return lot.programs[:program] + (edited,) + lot.programs[program + 1:]


def _check_place(lot, edit):
    """Raise BadEdit if the lot does not have the step, and to exchange it the next one, too."""
    word, program, place = edit[:3]
    if not is_whole(program, 0, len(lot) - 1):
        raise BadEdit(0, "place")
    last = lot.sizes[program] - (2 if word == "swap" else 1)
    if not is_whole(place, 0, last):
        raise BadEdit(0, "place")


def _with_step(steps, place, step):
    """Return the steps of a program with this one at the place."""
    return (*steps[:place], step, *steps[place + 1:])


def _dropped(steps, place):
    """Return the steps of a program without the one at the place."""
    left = steps[:place] + steps[place + 1:]
    _check_not_gone_by(left, place)
    return tuple([_with_places(step, lambda other: other - 1 if other > place else other) for step in left])


def _swapped(steps, place):
    """Return the steps of a program with the one at the place and the next one exchanged."""
    _check_not_gone_by([steps[place + 1]], place)
    places = {place: place + 1, place + 1: place}
    exchanged = (*steps[:place], steps[place + 1], steps[place], *steps[place + 2:])
    return tuple([_with_places(step, lambda other: places.get(other, other)) for step in exchanged])


def _check_not_gone_by(steps, place):
    """Raise BadEdit if one of the steps goes by the pocket of the place."""
    if any([place in step[2] for step in steps]):
        raise BadEdit(0, "goes by")


def _with_places(step, moved):
    """Return the step, going by the pockets of the places to which those were moved that it went by."""
    cell, kind, goes_by, name = step
    return cell, kind, tuple(sorted([moved(place) for place in goes_by])), name
