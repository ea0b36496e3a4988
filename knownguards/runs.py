"""Steps, done one behind another over worths of any kind."""


def run_steps(lot, programs, store, made, added):
    """Return the stores of all moments and the pockets of each program.

    Each number of programs stands for the next step of that program. What kind of worths the store has, two functions
    tell: made(name, worths) is what the function of a name makes of the worths in the pockets, and
    added(worth, name, worths) is a worth turned by the turner that the function of a name picks by the pockets.
    """
    held = list(store)
    pockets = [[] for _ in lot]
    moments = [tuple(held)]
    for program in programs:
        cell, kind, goes_by, name = lot.programs[program][len(pockets[program])]
        pockets[program].append(held[cell])
        worths = [pockets[program][place] for place in goes_by]
        if kind == "any":
            held[cell] = made(name, worths)
        elif kind == "adds":
            held[cell] = added(held[cell], name, worths)
        moments.append(tuple(held))
    return moments, pockets
