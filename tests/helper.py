"""What several tests need: a check of errors, and lots that are made up by a fixed seed."""

import fractions
import itertools
import random
import unittest

from knownguards.elder import elder_weavings
from knownguards.errors import BadFact, BadLot, BadStep
from knownguards.facts import with_facts
from knownguards.letting import let_weavings
from knownguards.lots import Lot, function_shape
from knownguards.meanings import Meaning
from knownguards.steps import check_step
from knownguards.weavings import all_weavings
from knownguards.worths import added_worth, made_worth


class GuardCase(unittest.TestCase):
    """A test case that can check an error together with all that it tells."""

    def refuses(self, error, told, call, *arguments):
        """The call raises just this error with just these attributes (True is not taken for 1)."""
        with self.assertRaises(error) as caught:
            call(*arguments)
        self.assertIs(type(caught.exception), error)
        self.assertEqual(repr(vars(caught.exception)), repr(told))


# things of kinds that stand nowhere in a lot; no sequences and no whole numbers
OTHER_KINDS = (None, True, False, "0", b"0", 1.0, {}, {0: 1}, set(), range(1), object(), len)


def blind_lot(*sizes):
    """A lot of one cell whose programs have so many steps."""
    return Lot(1, [[(0, "any", (), 0)] * size for size in sizes])


def made_up_step(rng, cells, steps, name):
    """A good step behind these steps of its program."""
    place = len(steps)
    gone_by = [other for other in range(place) if steps[other][1] != "adds" and rng.random() < 0.5]
    cell = rng.randrange(cells)
    kind = rng.choice(("any", "any", "any", "kept", "adds"))
    if kind == "kept":
        return cell, kind, (), -1
    if kind == "any" and rng.random() < 0.5:
        gone_by.append(place)
    return cell, kind, tuple(gone_by), name


def with_shared_names(rng, programs):
    """The programs, with some of the steps that may do the same function bearing one name."""
    names = {}
    shared = []
    for steps in programs:
        shared.append([])
        for cell, kind, goes_by, name in steps:
            shape = function_shape((cell, kind, goes_by, name))
            if kind != "kept" and shape in names and rng.random() < 0.4:
                name = rng.choice(names[shape])
            names.setdefault(shape, []).append(name)
            shared[-1].append((cell, kind, goes_by, name))
    return shared


def made_up_lot(rng):
    """Any lot."""
    cells = rng.randint(1, 3)
    while True:
        sizes = [rng.randint(1, 4) for _ in range(rng.randint(1, 3))]
        if sum(sizes) <= 7:
            break
    names = rng.sample(range(100), 7)
    programs = []
    for size in sizes:
        steps = []
        for _ in range(size):
            steps.append(made_up_step(rng, cells, steps, names.pop()))
        programs.append(steps)
    return Lot(cells, with_shared_names(rng, programs))


def made_up_lots(many, seed):
    """So many lots, the same ones for the same seed."""
    rng = random.Random(seed)
    return [made_up_lot(rng) for _ in range(many)]


def places_of(lot):
    """All (program, place) of the lot, ascending."""
    return [(program, place) for program, size in enumerate(lot.sizes) for place in range(size)]


def all_facts(lot):
    """All facts of the lot."""
    places = places_of(lot)
    facts = [("without", *at, pocket) for at in places for pocket in range(at[1] + 1)]
    facts += [(word, *at) for word in ("kept", "adds") for at in places]
    return facts + [("same", *one, *other) for one in places for other in places if one < other]


def closure(worths):
    """The least closed set, found one worth after the other."""
    found, waiting = set(), list(worths)
    while waiting:
        worth = waiting.pop()
        if worth not in found:
            found.add(worth)
            base, bag = worth
            waiting += [part for _, parts in bag + ((base[1:],) if base[0] else ()) for part in parts]
            waiting += [(base, bag[:at] + bag[at + 1:]) for at in range(len(bag))]
    return tuple(sorted(found))


def number_in(house, worth):
    return house.worths.index(worth) if worth in house.worths else len(house.worths)


def brute_change(house, step, number, pockets):
    """What a step puts on its cell in the small house, looked up among all its worths."""
    junk = len(house.worths)
    cell, kind, goes_by, name = step
    numbers = [pockets[place] for place in goes_by]
    if kind == "kept":
        return number
    if junk in numbers or kind == "adds" and number == junk:
        return junk
    worths = tuple(house.worths[k] for k in numbers)
    if kind == "any":
        return number_in(house, made_worth(name, worths))
    return number_in(house, added_worth(house.worths[number], name, worths))


def brute_run(house, store, weaving):
    """The small store behind the steps of these programs, from the first one of each."""
    store, pockets = list(store), [[] for _ in house.lot]
    for program in weaving:
        step = house.lot.programs[program][len(pockets[program])]
        pockets[program].append(store[step[0]])
        store[step[0]] = brute_change(house, step, store[step[0]], pockets[program])
    return tuple(store)


def brute_stores(house, store):
    found, waiting = set(), [store]
    while waiting:
        store = waiting.pop()
        if store not in found:
            found.add(store)
            waiting += [brute_run(house, store, [program] * size) for program, size in enumerate(house.lot.sizes)]
    return tuple(sorted(found))


def made_up_meaning(rng, lot, modulus):
    """Any meaning of this modulus that fits the lot, with a further name if one is free."""
    tables = {}
    for steps in lot:
        for _, kind, goes_by, name in steps:
            if kind != "kept" and name not in tables:
                tables[name] = [rng.randrange(modulus) for _ in range(modulus ** len(goes_by))]
    tables.setdefault(rng.randrange(100), [rng.randrange(modulus) for _ in range(modulus ** rng.randrange(5))])
    couples = list(tables.items())
    rng.shuffle(couples)
    return Meaning(modulus, couples)


def plain_moments(lot, modulus, tables, programs, store):
    """The stores when the steps of these programs are done, by a dict of the tables; a done program begins anew."""
    store, pockets, moments = list(store), [[] for _ in lot], [tuple(store)]
    for program in programs:
        if len(pockets[program]) == lot.sizes[program]:
            pockets[program] = []
        cell, kind, goes_by, name = lot.programs[program][len(pockets[program])]
        pockets[program].append(store[cell])
        if kind != "kept":
            rows = list(itertools.product(range(modulus), repeat=len(goes_by)))
            entry = tables[name][rows.index(tuple(pockets[program][place] for place in goes_by))]
            store[cell] = entry if kind == "any" else (store[cell] + entry) % modulus
        moments.append(tuple(store))
    return tuple(moments)


def plain_stores(lot, modulus):
    """All stores, ascending."""
    return tuple(itertools.product(range(modulus), repeat=lot.cells))


def row_steps(lot, row):
    """The row of wholes step by step."""
    return [program for program in row for _ in range(lot.sizes[program])]


def plain_rows(lot, modulus, tables, store):
    """For each store of its closed lot the shortest and then least row of wholes to it, found by one longer row each time."""
    rows, found = {store: ()}, [store]
    while found:
        longer = {}
        for reached in found:
            for program in range(len(lot)):
                after = plain_moments(lot, modulus, tables, row_steps(lot, [program]), reached)[-1]
                if after not in rows:
                    row = rows[reached] + (program,)
                    longer[after] = min(row, longer.get(after, row))
        rows.update(longer)
        found = list(longer)
    return rows


def all_sets(things):
    """All sets of these ascending things: fewer things first, those of one size ascending."""
    return [chosen for size in range(len(things) + 1) for chosen in itertools.combinations(things, size)]


def least_of(chosen_sets):
    """Those of the sets that hold no other of them."""
    return tuple(one for one in chosen_sets if not any(set(other) < set(one) for other in chosen_sets))


def greatest_of(chosen_sets):
    """Those of the sets that lie in no other of them."""
    return tuple(one for one in chosen_sets if not any(set(other) > set(one) for other in chosen_sets))


def pool_facts(lot):
    """All facts of the lot that may stand in a pool, ascending."""
    return sorted(fact for fact in all_facts(lot) if fact[0] != "same")


def clash(one, other):
    """Two facts of a pool that cannot both be so, by the words of [6.6]."""
    if one[1:3] != other[1:3] or one == other:
        return False
    words = {one[0], other[0]}
    if words == {"kept", "adds"}:
        return True
    return "without" in words and len(words) == 2 and any(fact[3:] == fact[2:3] for fact in (one, other))


def made_up_pool(rng, lot, most):
    """At most so many facts that go together, in any order; those that tell most come sooner into it."""
    facts = sorted(pool_facts(lot), key=lambda fact: rng.random() + (0.6 if fact[0] == "without" else 0))
    pool = []
    for fact in facts:
        if len(pool) < most and not any(clash(fact, other) for other in pool):
            pool.append(fact)
    rng.shuffle(pool)
    return pool


def made_up_guard_weavings(rng, weavings, unwoven):
    """The unwoven weavings with any of the others, in any order, some of them twice."""
    chosen = list(unwoven) + [weaving for weaving in weavings if rng.random() < 0.4]
    chosen += rng.sample(chosen, len(chosen) // 3)
    rng.shuffle(chosen)
    return chosen


def with_unlike_names(lot):
    """The lot with a name of its own for each step that is not kept."""
    names = iter(range(lot.total))
    return Lot(lot.cells, [
        [(cell, kind, goes_by, -1 if kind == "kept" else next(names)) for cell, kind, goes_by, _ in steps]
        for steps in lot
    ])


def taken_facts(rng, lot, facts, many):
    """At most so many of these facts, any, that with_facts takes together over the lot."""
    taken = []
    for fact in sorted(facts, key=lambda fact: rng.random()):
        try:
            with_facts(lot, taken + [fact])
        except BadFact:
            continue
        if len(taken) < many:
            taken.append(fact)
    return taken


def with_marks(lot):
    """The programs with marks of their own for the steps, which go by marks instead of places."""
    return [
        [((program, place), cell, kind, {(program, other) for other in goes_by}, name)
         for place, (cell, kind, goes_by, name) in enumerate(steps)]
        for program, steps in enumerate(lot)
    ]


def of_marks(cells, marked):
    """The lot of marked programs; KeyError if a step goes by a mark that is gone, BadLot if it is none."""
    programs = []
    for steps in marked:
        places = {mark: place for place, (mark, *_) in enumerate(steps)}
        programs.append([
            (cell, kind, tuple(sorted(places[mark] for mark in goes_by)), name) for _, cell, kind, goes_by, name in steps
        ])
    return Lot(cells, programs)


def plain_edit(lot, edit):
    """The lot that comes, or the word that refuses the edit; its form and its step's or fact's form are good."""
    word, *told = edit
    if word == "fact":
        try:
            return with_facts(lot, told)
        except BadFact:
            return "fact"
    program, place = told[:2]
    if (program, place) not in places_of(lot) or word == "swap" and (program, place + 1) not in places_of(lot):
        return "place"
    marked = with_marks(lot)
    steps = marked[program]
    if word == "step":
        try:
            cell, kind, goes_by, name = check_step(told[2], lot.cells, place)
        except BadStep:
            return "step"
        steps[place] = ((program, place), cell, kind, {(program, other) for other in goes_by}, name)
    if word == "drop":
        mark = steps.pop(place)[0]
        if any(mark in step[3] for step in steps):
            return "goes by"
    if word == "swap":
        if steps[place][0] in steps[place + 1][3]:
            return "goes by"
        steps[place], steps[place + 1] = steps[place + 1], steps[place]
    try:
        return of_marks(lot.cells, marked)
    except BadLot:
        return "lot"


def made_up_edit(rng, lot):
    """Any edit of a good form, mostly of a step that the lot has."""
    word = rng.choice(("step", "drop", "fact", "swap"))
    if word == "fact":
        return word, rng.choice(all_facts(lot) + [("kept", 3, 0)])
    program, place = rng.choice(places_of(lot) + [(0, 3), (2, 0)])
    if word != "step":
        return word, program, place
    steps = lot.programs[program][:place] if program < len(lot) else ()
    names = [step[3] for row in lot for step in row if step[3] >= 0] + [rng.randrange(100)] * 3
    return word, program, place, made_up_step(rng, lot.cells, steps, rng.choice(names))


def in_lists(thing):
    return [in_lists(item) for item in thing] if isinstance(thing, tuple) else thing


def plain_met(lot, goal):
    """Whether the goal is met, by the words of [9.2]."""
    word, row = goal
    if word == "share":
        greatest = let_weavings(lot)
        return fractions.Fraction(len(greatest), len(all_weavings(lot))) >= fractions.Fraction(*row)
    if tuple(row) not in all_weavings(lot):
        return False
    if word == "elder":
        return tuple(row) in elder_weavings(lot)
    return (tuple(row) in let_weavings(lot)) == (word == "lets")


def made_up_goal(rng, lot):
    word = rng.choice(("lets", "bars", "elder", "share"))
    if word == "share":
        return word, rng.choice(((0, 1), (1, 1), (1, 2), (2, 6), (3, 4), (6, 9), (5, 4)))
    return word, rng.choice(all_weavings(lot))
