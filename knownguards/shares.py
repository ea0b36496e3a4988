"""How much a guard holds: in one order of asking, and in all of them together."""

from math import gcd

from knownguards.guards import begins_let
from knownguards.live import run_order
from knownguards.weavings import all_weavings, check_weaving, weaving_count


def first_hold(guard, order):
    """Return the place of the first entry of the order at which its program is held, None if nothing is held."""
    checked = check_weaving(guard.lot, order)
    # ahead of the first hold the granted row is the order as far as it goes
    for place in range(len(checked)):
        if not begins_let(guard, checked[:place + 1]):
            return place
    return None


def held_orders(guard):
    """Return all orders of asking in which something is held, ascending."""
    return tuple([order for order in all_weavings(guard.lot) if order not in guard])


def share_of(guard):
    """Return the part of all orders in which nothing is held, as (top, bottom) in lowest terms."""
    return _lowest(len(guard), weaving_count(guard.lot.sizes))


def mean_holds(guard):
    """Return the number of held asks of an order in the mean, as (top, bottom) in lowest terms."""
    orders = all_weavings(guard.lot)
    return _lowest(sum([run_order(guard, order).holds for order in orders]), len(orders))


def _lowest(top, bottom):
    """Return the share in lowest terms."""
    common = gcd(top, bottom)
    return top // common, bottom // common
