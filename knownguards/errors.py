"""All errors of the package, each straight under GuardError."""


class GuardError(ValueError):
    """What every error of this package is."""


class BadStep(GuardError):
    """A step is refused; what is the first word that applies."""

    def __init__(self, what):
        self.what = what


class BadLot(GuardError):
    """A lot is refused; what is the first word that applies."""

    def __init__(self, what):
        self.what = what


class NoProgram(GuardError):
    """A lot has no program of this number."""

    def __init__(self, program):
        self.program = program


class NoStep(GuardError):
    """A program has no step at this place."""

    def __init__(self, program, place):
        self.program = program
        self.place = place


class BadWeaving(GuardError):
    """A weaving is refused; what is the first word that applies."""

    def __init__(self, what):
        self.what = what


class BadRow(GuardError):
    """A row of wholes is refused at this index, or as a whole (-1)."""

    def __init__(self, index):
        self.index = index


class BadSizes(GuardError):
    """The sizes of programs are refused."""


class BadFact(GuardError):
    """A set of facts is refused at this index, or as a whole (-1)."""

    def __init__(self, index):
        self.index = index


class BadText(GuardError):
    """A thing is not the exact text of what was asked for."""


class TooMany(GuardError):
    """There are too many to list; count tells how many."""

    def __init__(self, count):
        self.count = count


class TooLong(GuardError):
    """A row of wholes has too many steps; steps tells how many."""

    def __init__(self, steps):
        self.steps = steps


class BadOrder(GuardError):
    """A thing is no row of all programs."""


class OrderTurned(GuardError):
    """A row of all programs turns this meeting."""

    def __init__(self, meeting):
        self.meeting = meeting


class BadHouse(GuardError):
    """The worths of a small house are refused because of this one."""

    def __init__(self, worth):
        self.worth = worth


class BadSmallStore(GuardError):
    """A thing is no store of a small house."""


class BadMeaning(GuardError):
    """A meaning is refused; what is the first word that applies."""

    def __init__(self, what):
        self.what = what


class BadStore(GuardError):
    """A thing is no store of a lot in a meaning."""


class BadStores(GuardError):
    """A set of stores is refused at this index, or as a whole (-1)."""

    def __init__(self, index):
        self.index = index


class NotKept(GuardError):
    """A program leads this store out of the rule."""

    def __init__(self, program, store):
        self.program = program
        self.store = store


class BadPool(GuardError):
    """A pool of facts is refused at this index, or as a whole (-1)."""

    def __init__(self, index):
        self.index = index


class BadWish(GuardError):
    """A wish is refused at this index, or as a whole (-1)."""

    def __init__(self, index):
        self.index = index


class BadGuard(GuardError):
    """The weavings of a guard are refused."""


class NotAll(GuardError):
    """A guard lacks this unwoven weaving."""

    def __init__(self, weaving):
        self.weaving = weaving


class BadAsk(GuardError):
    """A program may not ask now; what is the first word that applies."""

    def __init__(self, what):
        self.what = what


class UnlikeLots(GuardError):
    """Two guards have unlike lots."""


class NotHeld(GuardError):
    """A thing is not the number of a held program."""

    def __init__(self, program):
        self.program = program


class LateLook(GuardError):
    """The look of this step is late."""

    def __init__(self, program, place):
        self.program = program
        self.place = place


class BadEdit(GuardError):
    """An edit is refused at this index; what is the first word that applies."""

    def __init__(self, index, what):
        self.index = index
        self.what = what


class BadGoal(GuardError):
    """A row of goals is refused at this index, or as a whole (-1)."""

    def __init__(self, index):
        self.index = index


class BadMendPool(GuardError):
    """A pool of edits is refused at this index, or as a whole (-1)."""

    def __init__(self, index):
        self.index = index


class NothingMade(GuardError):
    """There is no edit to take back."""
