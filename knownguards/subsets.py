"""Sets of things, as ascending tuples: all of them, and the least or the greatest that fit.

Rows of sets have those with fewer things first, those of one size in ascending order.
"""


def all_subsets(things):
    """Return all sets of these ascending things."""
    subsets = [()]
    longest = [()]
    for _ in things:
        longest = [(*subset, thing) for subset in longest for thing in things if not subset or subset[-1] < thing]
        subsets.extend(longest)
    return subsets


def is_within(things, others):
    """Tell whether each of the things is one of the others."""
    return all([thing in others for thing in things])


def in_order(subsets):
    """Return the sets in the order of a row of sets."""
    return [subset for _, subset in sorted([(len(subset), subset) for subset in subsets])]


def least_subsets(things, fits):
    """Return the sets of these ascending things that fit while no set within them does."""
    found = []
    for subset in all_subsets(things):
        if not any([is_within(less, subset) for less in found]) and fits(subset):
            found.append(subset)
    return tuple(found)


def greatest_subsets(things, fits):
    """Return the sets of these ascending things that fit while no set that holds them does."""
    found = []
    for subset in all_subsets(things)[::-1]:
        if not any([is_within(subset, more) for more in found]) and fits(subset):
            found.append(subset)
    return tuple(found[::-1])
