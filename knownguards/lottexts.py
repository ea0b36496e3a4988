"""Texts of lots, weavings and facts, there and back."""

from knownguards.errors import BadFact, BadLot, BadText, BadWeaving
from knownguards.facts import is_fact
from knownguards.lots import Lot
from knownguards.steps import NO_NAME
from knownguards.weavings import check_weaving

# no number in these texts is longer, and Python refuses to read very long ones
MOST_DIGITS = 2


def lot_text(lot):
    """Return the text of the lot."""
    programs = ["; ".join([_step_text(step) for step in steps]) for steps in lot]
    return f"{lot.cells}: " + " | ".join(programs)


def _step_text(step):
    """Return the text of one step."""
    cell, kind, goes_by, name = step
    text = f"{kind} {cell}"
    if goes_by:
        text = text + " by " + _numbers_text(goes_by)
    if kind != "kept":
        text = text + f" as {name}"
    return text


def _numbers_text(numbers):
    """Return the numbers with spaces between."""
    return " ".join([str(number) for number in numbers])


def lot_of_text(text):
    """Return the lot that has this text."""
    _check_string(text)
    cells, _, programs = text.partition(": ")
    try:
        return Lot(_number_of(cells), [_program_of(part) for part in programs.split(" | ")])
    except BadLot:
        raise BadText() from None


def _check_string(text):
    """Raise BadText if a thing is no string."""
    if not isinstance(text, str):
        raise BadText()


def _program_of(text):
    """Return the program that has this text, if any has."""
    return [_step_of(part) for part in text.split("; ")]


def _step_of(text):
    """Return the step that has this text, if any has."""
    # a sign too many or too few gets into a number or into the kind, and is refused with it
    rest, has_name, name = text.partition(" as ")
    rest, has_places, places = rest.partition(" by ")
    kind, _, cell = rest.partition(" ")
    return (
        _number_of(cell),
        kind,
        _numbers_of(places.split(" ")) if has_places else (),
        _number_of(name) if has_name else NO_NAME,
    )


def _numbers_of(words):
    """Return the numbers that have these texts, or raise BadText."""
    return tuple([_number_of(word) for word in words])


def _number_of(word):
    """Return the number that has this text, or raise BadText."""
    # isdigit alone takes signs of other scripts, too
    if len(word) > MOST_DIGITS or not word.isascii() or not word.isdigit():
        raise BadText()
    number = int(word)
    if str(number) != word:
        raise BadText()
    return number


def weaving_text(lot, weaving):
    """Return the text of the weaving."""
    return _numbers_text(check_weaving(lot, weaving))


def weaving_of_text(lot, text):
    """Return the weaving of the lot that has this text."""
    _check_string(text)
    try:
        return check_weaving(lot, _numbers_of(text.split(" ")))
    except BadWeaving:
        raise BadText() from None


def fact_text(lot, fact):
    """Return the text of the fact."""
    if not is_fact(lot, fact):
        raise BadFact(0)
    return f"{fact[0]} " + _numbers_text(fact[1:])


def fact_of_text(lot, text):
    """Return the fact about the lot that has this text."""
    _check_string(text)
    word, *words = text.split(" ")
    numbers = _numbers_of(words)
    fact = (word, *numbers)
    if not is_fact(lot, fact):
        raise BadText()
    return fact
