"""Facts about the steps of a lot."""

from knownguards.errors import BadFact
from knownguards.lots import Lot, function_shape
from knownguards.steps import NO_NAME
from knownguards.wholes import is_sequence, is_whole

MOST_FACTS = 40


def is_fact(lot, fact):
    """Tell whether a thing has the form of a fact whose programs and places the lot has."""
    if not is_sequence(fact) or len(fact) < 3 or not _is_step(lot, fact[1], fact[2]):
        return False
    word = fact[0]
    if word == "without":
        return len(fact) == 4 and is_whole(fact[3], 0, fact[2])
    if word == "kept" or word == "adds":
        return len(fact) == 3
    if word == "same":
        return len(fact) == 5 and _is_step(lot, fact[3], fact[4]) and _first_step(fact) < _second_step(fact)
    return False


def _is_step(lot, program, place):
    """Tell whether the lot has this program and this place in it."""
    return is_whole(program, 0, len(lot) - 1) and is_whole(place, 0, lot.sizes[program] - 1)


def _first_step(fact):
    """Return the step that the fact tells of first, as (program, place)."""
    return fact[1], fact[2]


def _second_step(fact):
    """Return the other step that a "same" tells of, as (program, place)."""
    return fact[3], fact[4]


def cells_floor(lot):
    """Return the lot of which only the cells of the steps are known."""
    programs = []
    name = 0
    for steps in lot:
        floor = []
        for place, step in enumerate(steps):
            floor.append((step[0], "any", tuple(range(place + 1)), name))
            name += 1
        programs.append(floor)
    return Lot(lot.cells, programs)


def with_facts(lot, facts):
    """Return the lot of which these facts are known besides."""
    _check_facts(lot, facts)
    programs = lot.programs
    for index, fact in enumerate(facts):
        if fact[0] != "same":
            programs = _programs_told(programs, fact, index)
    for index, fact in enumerate(facts):
        if fact[0] == "same":
            programs = _programs_told_same(programs, fact, index)
    return Lot(lot.cells, programs)


def _check_facts(lot, facts):
    """Raise BadFact for what is no sequence, too long, or not of the form of facts."""
    if not is_sequence(facts) or len(facts) > MOST_FACTS:
        raise BadFact(-1)
    for index, fact in enumerate(facts):
        if not is_fact(lot, fact):
            raise BadFact(index)


def _programs_told(programs, fact, index):
    """Return the programs, changed by a fact that is no "same"; raise BadFact(index) if it clashes."""
    program = fact[1]
    old_steps = programs[program]
    if _clashes_with(old_steps[fact[2]], fact):
        raise BadFact(index)
    new_steps = _steps_told(old_steps, fact)
    names = [step[3] for steps in programs for step in steps]
    for old, new in zip(old_steps, new_steps):
        if old != new and names.count(old[3]) > 1:
            raise BadFact(index)
    return programs[:program] + (new_steps,) + programs[program + 1:]


def _clashes_with(step, fact):
    """Tell whether what the step is does not go together with a fact about it."""
    word = fact[0]
    place = fact[2]
    kind = step[1]
    if word == "without":
        return kind != "any" and fact[3] == place
    if kind == "any":
        return place not in step[2]
    return kind != word


def _steps_told(steps, fact):
    """Return the steps of one program, changed by a fact about one of them."""
    word = fact[0]
    place = fact[2]
    told = list(steps)
    if word == "kept":
        told[place] = (steps[place][0], "kept", (), NO_NAME)
    elif word == "without":
        told[place] = _step_without(steps[place], fact[3])
    else:
        told = [_step_without(step, place) for step in steps]
        cell, _, goes_by, name = told[place]
        told[place] = (cell, "adds", goes_by, name)
    return told


def _step_without(step, place):
    """Return the step, not going by the pocket of this place."""
    cell, kind, goes_by, name = step
    return cell, kind, tuple([other for other in goes_by if other != place]), name


def _programs_told_same(programs, fact, index):
    """Return the programs, changed by a "same"; raise BadFact(index) if it cannot be."""
    first = programs[fact[1]][fact[2]]
    second = programs[fact[3]][fact[4]]
    if first[1] == "kept" or function_shape(first) != function_shape(second):
        raise BadFact(index)
    lesser = min(first[3], second[3])
    greater = max(first[3], second[3])
    return tuple([
        [(cell, kind, goes_by, lesser if name == greater else name) for cell, kind, goes_by, name in steps]
        for steps in programs
    ])


def own_facts(lot):
    """Return the facts that make the lot out of its cells floor, ascending."""
    facts = []
    first_of_name = {}
    for program, steps in enumerate(lot):
        for place, step in enumerate(steps):
            kind = step[1]
            if kind != "any":
                facts.append((kind, program, place))
            if kind != "kept":
                facts.extend(_missing_pockets(steps, program, place))
                first = first_of_name.setdefault(step[3], (program, place))
                if first != (program, place):
                    facts.append(("same", *first, program, place))
    return tuple(sorted(facts))


def _missing_pockets(steps, program, place):
    """Return a "without" for each pocket that a step, which is not kept, might go by but does not."""
    return [
        ("without", program, place, other)
        for other in range(place + 1)
        if other not in steps[place][2] and steps[other][1] != "adds"
    ]


def facts_borne(lot, facts):
    """Return None if the lot bears all facts out, else the index of the first that it does not."""
    _check_facts(lot, facts)
    for index, fact in enumerate(facts):
        if not _is_borne(lot, fact):
            return index
    return None


def _is_borne(lot, fact):
    """Tell whether it is so in the lot as the fact tells."""
    word = fact[0]
    step = lot.programs[fact[1]][fact[2]]
    if word == "without":
        return fact[3] not in step[2] and (step[1] == "any" or fact[3] != fact[2])
    if word == "same":
        other = lot.programs[fact[3]][fact[4]]
        return step[3] != NO_NAME and step[3] == other[3]
    return step[1] == word
