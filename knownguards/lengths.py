"""Knowledge of lengths alone: the step at which a weaving splits a program, and the house that bars it."""

from knownguards.lots import Lot
from knownguards.weavings import placed_steps

MODULUS = 3
STAYS = (0, 1, 2)
ADDS_ONE = (1, 2, 0)
TAKES_ONE = (2, 0, 1)
DOUBLES = (0, 2, 1)


class House:
    """A house of one cell whose rule each program keeps and a weaving breaks."""

    def __init__(self, lot, modulus, tables, start, stores):
        self.lot = lot
        self.modulus = modulus
        self.tables = tables
        self.start = start
        self.stores = stores

    def __eq__(self, other):
        return (
            isinstance(other, House)
            and self.lot == other.lot
            and self.modulus == other.modulus
            and self.tables == other.tables
            and self.start == other.start
            and self.stores == other.stores
        )


def split_of(lot, weaving):
    """Return the first step that is split off from the next one of its program, and the step behind it."""
    placed = placed_steps(lot, weaving)
    behind = dict(zip(placed, placed[1:]))
    for program, size in enumerate(lot.sizes):
        for place in range(size - 1):
            follower = behind[(program, place)]
            if follower != (program, place + 1):
                return (program, place, *follower)
    return None


def lengths_bar(lot, weaving):
    """Return a house that fits the lengths of the lot and that the weaving breaks, None if it is unwoven."""
    split = split_of(lot, weaving)
    if split is None:
        return None
    program, place, other, other_place = split
    # 0 becomes 1, is doubled to 2 and ends in 1; done whole, a program only takes back what it added
    changing = {(program, place): ADDS_ONE, (program, place + 1): TAKES_ONE, (other, other_place): DOUBLES}
    placed = [(number, at) for number, size in enumerate(lot.sizes) for at in range(size)]
    tables = tuple([changing.get(step, STAYS) for step in placed])
    return House(_one_cell_lot(lot.sizes), MODULUS, tables, (0,), ((0,),))


def _one_cell_lot(sizes):
    """Return the lot of one cell and these lengths whose steps go by their own pockets, names ascending."""
    programs = []
    name = 0
    for size in sizes:
        steps = []
        for place in range(size):
            steps.append((0, "any", (place,), name))
            name += 1
        programs.append(steps)
    return Lot(1, programs)
