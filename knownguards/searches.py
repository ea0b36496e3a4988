"""What programs, done whole one behind another, lead to.

A state is a tuple of numbers, or a tuple of such tuples; lead(state, program) is what the program leads it to.
"""


def states_from(start, many, lead):
    """Return all that rows of wholes of so many programs lead to from the start, ascending."""
    return tuple(sorted(list(_ways_from(start, None, many, lead))))


def least_row(start, goal, many, lead):
    """Return the shortest, and of these the least, row of wholes from start to goal, None if there is none."""
    ways = _ways_from(start, goal, many, lead)
    if goal not in ways:
        return None
    row = []
    way = ways[goal]
    while way is not None:
        ahead, program = way
        row.append(program)
        way = ways[ahead]
    return tuple(row[::-1])


def _ways_from(start, goal, many, lead):
    """Return for all that is reached, until the goal is, what stands ahead of it and the program between."""
    ways = {start: None}
    layer = [start]
    # each layer stands in the order of the least rows to it, so the first way found is by the least row
    while layer and goal not in ways:
        following = []
        for state in list(layer):
            for program in range(many):
                after = lead(state, program)
                if after not in ways:
                    ways[after] = (state, program)
                    following.append(after)
        layer = following
    return ways


def are_kept(states, many, lead):
    """Tell whether each of so many programs leads each of the states to one of them."""
    known = {state: True for state in states}
    for state in states:
        for program in range(many):
            if lead(state, program) not in known:
                return False
    return True
