"""Meetings of steps, orders of whole programs, and rings, which bar every order."""

from knownguards.errors import BadOrder, OrderTurned
from knownguards.weavings import check_weaving, placed_steps
from knownguards.wholes import is_sequence, is_whole


class Order:
    """A row of all programs that turns no meeting of a weaving."""

    def __init__(self, programs):
        self.programs = programs

    def __eq__(self, other):
        return isinstance(other, Order) and self.programs == other.programs


class Ring:
    """Meetings of a weaving that lead round, so that each row of all programs turns one of them."""

    def __init__(self, links):
        self.links = links

    def __eq__(self, other):
        return isinstance(other, Ring) and self.links == other.links


def meetings_of(lot, weaving):
    """Return all meetings of the weaving, ascending."""
    placed = placed_steps(lot, weaving)
    return tuple(sorted([
        (*ahead, *behind)
        for index, ahead in enumerate(placed)
        for behind in placed[index + 1:]
        if ahead[0] != behind[0] and _meet(_step_at(lot, ahead), _step_at(lot, behind))
    ]))


def _step_at(lot, placed):
    """Return the step that stands at (program, place)."""
    program, place = placed
    return lot.programs[program][place]


def _meet(step, other):
    """Tell whether two steps of unlike programs meet."""
    return step[0] == other[0] and (step[1] == "any" or step[1] != other[1])


def check_order(lot, programs):
    """Return the row of all programs as a tuple, or raise BadOrder."""
    if not is_sequence(programs) or not all([is_whole(program) for program in programs]):
        raise BadOrder()
    if sorted(programs) != list(range(len(lot))):
        raise BadOrder()
    return tuple(programs)


def order_fault(lot, weaving, programs):
    """Return None if the row is an order for the weaving, else the least meeting that it turns."""
    meetings = meetings_of(lot, weaving)
    return _least_turned(meetings, check_order(lot, programs))


def _least_turned(meetings, row):
    """Return the first of the meetings that the row turns, None if there is none."""
    for meeting in meetings:
        if row.index(meeting[2]) < row.index(meeting[0]):
            return meeting
    return None


def all_orders(lot, weaving):
    """Return all orders for the weaving, ascending."""
    meetings = meetings_of(lot, weaving)
    return tuple([row for row in rows_of_all(lot) if _least_turned(meetings, row) is None])


def rows_of_all(lot):
    """Return all rows of all programs, ascending."""
    return _rows_of_unlike(len(lot), len(lot))


def _rows_of_unlike(many, length):
    """Return all rows of so many unlike numbers below many, ascending."""
    rows = [()]
    for _ in range(length):
        rows = [(*row, number) for row in rows for number in range(many) if number not in row]
    return rows


def order_for(lot, weaving):
    """Return the least order for the weaving or, if there is none, a shortest ring."""
    orders = all_orders(lot, weaving)
    if orders:
        return Order(orders[0])
    return Ring(_rings(lot, meetings_of(lot, weaving))[0])


def _rings(lot, meetings):
    """Return rings of the meetings, shorter ones first, at least one if each row turns one of them."""
    link_of = {}
    for meeting in meetings:
        link_of.setdefault((meeting[0], meeting[2]), meeting)
    rings = []
    for circle in _rows_of_unlike(len(lot), 2) + _rows_of_unlike(len(lot), 3):
        couples = list(zip(circle, circle[1:] + circle[:1]))
        if all([couple in link_of for couple in couples]):
            rings.append(tuple([link_of[couple] for couple in couples]))
    return rings


def ring_fault(lot, weaving, ring):
    """Return None if the ring is one of the weaving, else the first word that applies."""
    meetings = meetings_of(lot, weaving)
    links = ring.links
    if not is_sequence(links) or not 2 <= len(links) <= 3 or not all([_is_link(link) for link in links]):
        return "form"
    if not all([_has_steps(lot, link) for link in links]):
        return "step"
    if not all([tuple(link) in meetings for link in links]):
        return "meeting"
    if not _goes_round(links):
        return "round"
    return None


def _is_link(thing):
    """Tell whether a thing is a sequence of four whole numbers."""
    return is_sequence(thing) and len(thing) == 4 and all([is_whole(item) for item in thing])


def _has_steps(lot, link):
    """Tell whether the lot has both steps that the link names."""
    places = [(program, place) for program, steps in enumerate(lot) for place in range(len(steps))]
    return (link[0], link[1]) in places and (link[2], link[3]) in places


def _goes_round(links):
    """Tell whether each meeting leads to the next one, the last to the first."""
    programs = [link[0] for link in links]
    others = [link[2] for link in links]
    # two or three meetings that lead round cannot have one program twice: no program meets itself
    return others == programs[1:] + programs[:1]


def swap_walk(lot, weaving, programs):
    """Return the weavings from this one to the unwoven one in which the programs stand in the row's order."""
    meeting = order_fault(lot, weaving, programs)
    if meeting is not None:
        raise OrderTurned(meeting)
    return walk_by(check_weaving(lot, weaving), programs)


def walk_by(weaving, programs):
    """Return the weavings from this one to the unwoven one of a row of all programs, by exchanges of neighbours."""
    walk = [weaving]
    at = _leftmost_pair(weaving, programs)
    while at is not None:
        walk.append(_exchanged(walk[-1], at))
        at = _leftmost_pair(walk[-1], programs)
    return tuple(walk)


def _leftmost_pair(weaving, programs):
    """Return where the first pair stands whose second program is ahead of its first one in the row."""
    ranks = [programs.index(program) for program in weaving]
    for at, (rank, following) in enumerate(zip(ranks, ranks[1:])):
        if following < rank:
            return at
    return None


def _exchanged(weaving, at):
    """Return the weaving with the neighbours at this place exchanged."""
    return weaving[:at] + (weaving[at + 1], weaving[at]) + weaving[at + 2:]
