"""[2.1] to [2.4]: free worths."""

from collections import Counter
from itertools import permutations, product
import random
import unittest

from helper import OTHER_KINDS, GuardCase
from knownguards.worths import (
    added_worth, bags_within, begun_store, closed_worths, is_worth, made_worth, parts_of, worth_text,
)

B0, B1, B2 = ((0, 0), ()), ((0, 1), ()), ((0, 2), ())


def deep_worth(levels):
    """A worth nested very deep: 3 tuples for each level and 2 more."""
    worth = B0
    for _ in range(levels):
        worth = made_worth(0, (worth,))
    return worth


def deep_turned_worth(levels):
    """Likewise, but nested in turns."""
    worth = B0
    for _ in range(levels):
        worth = added_worth(B1, 1, (worth,))
    return worth


def made_up_worth(rng, depth):
    """Any worth that is not nested much deeper."""
    def calls(most):
        return rng.randrange(4), tuple(made_up_worth(rng, depth - 1) for _ in range(rng.randint(0, most)))

    worth = ((0, rng.randrange(3)), ())
    if depth > 0 and rng.random() < 0.6:
        worth = made_worth(*calls(2))
    for _ in range(rng.choice((0, 0, 1, 2, 3)) if depth > 0 else 0):
        worth = added_worth(worth, *calls(1))
    return worth


def made_up_worths(many, seed):
    rng = random.Random(seed)
    return [made_up_worth(rng, rng.randint(0, 3)) for _ in range(many)]


class IsWorthTest(GuardCase):
    def is_one(self, thing):
        with self.subTest(repr(thing)[:300]):
            self.assertIs(is_worth(thing), True)

    def is_none(self, thing):
        with self.subTest(repr(thing)[:300]):
            self.assertIs(is_worth(thing), False)

    def everywhere(self, thing):
        """The thing as a worth, and in the places of worths within one."""
        self.is_none(thing)
        self.is_none(((1, 0, (thing,)), ()))
        self.is_none(((1, 0, (B0, thing)), ()))
        self.is_none(((0, 0), ((0, (thing,)),)))
        self.is_none(((0, 0), ((0, ()), (1, (B1, thing, B2)))))
        self.is_none(((1, 0, (((0, 0), ((2, (thing,)),)),)), ()))

    def test_worths(self):
        for worth in (
            B0, B1, B2, ((1, 0, ()), ()), ((1, 99, ()), ()), ((1, 5, (B0,)), ()), ((1, 5, (B0, B1, B2, B0)), ()),
            ((0, 0), ((0, ()),)), ((0, 0), ((99, (B2, B1, B1, B0)),)), ((0, 0), ((1, ()), (1, ()), (2, ()))),
            ((1, 3, (B0, ((1, 2, ()), ((4, ()),)))), ((0, (B0,)), (0, (B1,)), (1, ()))),
            ((0, 1), ((7, ()),) * 7), ((0, 1), ((7, ()),) * 20),
        ):
            self.is_one(worth)

    def test_made_up_worths(self):
        for worth in made_up_worths(300, "is worth"):
            self.is_one(worth)

    def test_other_kinds(self):
        for thing in (*OTHER_KINDS, 0, "b0", (), (0,), (0, 0), (0, 0, 0), ((0, 0),), ((0, 0), (), ())):
            self.everywhere(thing)
        for thing in (
            ((), ()), ((0,), ()), (0, ()), ((0, 0), 0), (None, None), ((0, 0), None), ("00", ()), ((0, 0), ""),
        ):
            self.everywhere(thing)

    def test_begun_worths(self):
        for cell in (*OTHER_KINDS, -1, 3, (0,)):
            self.everywhere(((0, cell), ()))
        self.everywhere(((0, 0, ()), ()))
        self.everywhere(((0, 0, 0), ()))

    def test_first_number_of_a_base(self):
        for first in (*OTHER_KINDS, -1, 2):
            self.everywhere(((first, 0), ()))
            self.everywhere(((first, 0, ()), ()))

    def test_made_worths(self):
        for name in (*OTHER_KINDS, -1, 100):
            self.everywhere(((1, name, ()), ()))
        for worths in (*OTHER_KINDS, 0, "", {}, (B0,) * 5, B0, (0,)):
            self.everywhere(((1, 0, worths), ()))
        self.everywhere(((1, 0), ()))
        self.everywhere(((1, 0, (), ()), ()))

    def test_turns(self):
        for name in (*OTHER_KINDS, -1, 100):
            self.everywhere(((0, 0), ((name, ()),)))
        for worths in (*OTHER_KINDS, 0, "", (B0,) * 5, B0, (0,)):
            self.everywhere(((0, 0), ((0, worths),)))
        for turn in (*OTHER_KINDS, 0, (), (0,), (0, (), ()), (1, 0, ()), "00"):
            self.everywhere(((0, 0), (turn,)))
            self.everywhere(((0, 0), ((0, ()), turn)))
        for bag in (*OTHER_KINDS, 0, "", {}, (0, ())):
            self.everywhere(((0, 0), bag))

    def test_bags_are_ascending(self):
        for turns in (
            ((1, ()), (0, ())), ((0, ()), (2, ()), (1, ())), ((0, (B1,)), (0, (B0,))), ((0, (B0,)), (0, ())),
            ((0, (B0, B0)), (0, (B0,))), ((1, ()), (0, (B0,))), ((0, ((B0[0], ((0, ()),)),)), (0, (B0,))),
            ((0, (((1, 0, ()), ()),)), (0, (B2,))),
        ):
            self.everywhere(((0, 0), turns))
            self.everywhere(((1, 0, ()), turns))
            self.is_one(((0, 0), tuple(sorted(turns))))

    def test_turns_that_cannot_be_compared(self):
        for thing in (None, "", 1.5, object(), (None,), ((0, "a"), ())):
            self.is_none(((0, 0), ((0, (B0,)), (0, (thing,)))))
            self.is_none(((0, 0), ((0, (thing,)), (0, (B0,)))))
            self.is_none(((0, 0), ((0, (((1, 0, (thing,)), ()),)), (0, (((1, 0, (B0,)), ()),)))))

    def test_lists_in_place_of_tuples(self):
        for thing in (
            [(0, 0), ()], ([0, 0], ()), ((0, 0), []), ((1, 0, []), ()), ([1, 0, ()], ()), ((1, 0, (list(B0),)), ()),
            ((1, 0, [B0]), ()), ((0, 0), ([0, ()],)), ((0, 0), ((0, []),)), ((0, 0), ((0, [B0]),)), ((0, 0), [(0, ())]),
        ):
            self.everywhere(thing)

    def test_worths_nested_very_deep(self):
        self.is_one(deep_worth(32))
        self.is_one(deep_turned_worth(32))
        worth = deep_worth(31)
        self.is_one((worth[0], ((0, (worth,)), (0, (worth,)))))
        self.is_none((worth[0], ((0, (worth,)), (0, (deep_worth(30),)))))

    def test_other_things_nested_very_deep(self):
        lists, tuples, wrong, true = [], (), ((0, 3), ()), ((0, False), ())
        for _ in range(98):
            lists, tuples = [lists], (tuples,)
        for _ in range(32):
            wrong, true = made_worth(0, (wrong,)), added_worth(B0, 0, (true,))
        mixed = ((0, 0), ())
        for _ in range(49):
            mixed = ([mixed], ())
        for thing in (lists, tuples, wrong, true, mixed):
            self.is_none(thing)

    def test_one_wrong_sign_anywhere_in_a_worth(self):
        def spoilt(thing):
            """All things that come of the thing by putting one wrong thing into it."""
            yield None
            if isinstance(thing, tuple):
                yield list(thing)
                for at, item in enumerate(thing):
                    for wrong in spoilt(item):
                        yield (*thing[:at], wrong, *thing[at + 1:])
            else:
                yield from (bool(thing), float(thing), str(thing), -1, 100)

        for worth in made_up_worths(40, "spoilt"):
            for thing in spoilt(worth):
                self.is_none(thing)


class MakingTest(GuardCase):
    def test_begun_store(self):
        self.assertEqual(begun_store(1), (B0,))
        self.assertEqual(begun_store(2), (B0, B1))
        self.assertEqual(begun_store(3), (B0, B1, B2))

    def test_made_worth(self):
        self.assertEqual(made_worth(0, ()), ((1, 0, ()), ()))
        worths = [B1, B0]
        made = made_worth(99, worths)
        self.assertEqual(made, ((1, 99, (B1, B0)), ()))
        worths.append(B2)
        self.assertEqual(made, ((1, 99, (B1, B0)), ()))

    def test_added_worth(self):
        once = added_worth(B0, 4, ())
        self.assertEqual(once, ((0, 0), ((4, ()),)))
        self.assertEqual(added_worth(once, 3, [B1]), ((0, 0), ((3, (B1,)), (4, ()))))
        self.assertEqual(added_worth(once, 4, []), ((0, 0), ((4, ()), (4, ()))))
        self.assertEqual(added_worth(once, 4, (B2, B2)), ((0, 0), ((4, ()), (4, (B2, B2)))))
        made = made_worth(9, (B0,))
        self.assertEqual(added_worth(made, 0, ()), ((1, 9, (B0,)), ((0, ()),)))

    def test_turns_in_another_order_make_the_same_worth(self):
        turns = [(5, ()), (0, (B0,)), (0, (B1,)), (5, ()), (0, (((1, 7, ()), ()),))]
        for order in permutations(turns):
            worth = B2
            for name, worths in order:
                worth = added_worth(worth, name, worths)
            self.assertEqual(worth, ((0, 2), tuple(sorted(turns))))
            self.assertTrue(is_worth(worth))


class PartsTest(GuardCase):
    def test_parts_of(self):
        made = made_worth(0, (B2,))
        for worth, parts in (
            (B0, ()),
            (made_worth(1, ()), ()),
            (made, (B2,)),
            (made_worth(1, (made, B1, B0, B1)), (B0, B1, made)),
            (added_worth(B0, 1, ()), ()),
            (added_worth(added_worth(made_worth(1, (B1, made)), 3, (B0, B1)), 2, (made,)), (B0, B1, made)),
            (added_worth(added_worth(B2, 3, (B1,)), 3, (B1,)), (B1,)),
        ):
            self.assertEqual(parts_of(worth), parts)

    def test_parts_of_made_up_worths(self):
        for worth in made_up_worths(200, "parts"):
            base, bag = worth
            calls = [base[1:], *bag] if base[0] == 1 else bag
            self.assertEqual(list(parts_of(worth)), sorted({part for _, worths in calls for part in worths}))

    def test_bags_within(self):
        self.assertEqual(bags_within(B0), (B0,))
        self.assertEqual(bags_within(made_worth(5, (B0,))), (made_worth(5, (B0,)),))
        one, two = (3, ()), (4, (B1,))
        self.assertEqual(
            bags_within(((0, 1), (one, one, two))),
            tuple(((0, 1), bag) for bag in ((), (one,), (one, one), (one, one, two), (one, two), (two,))),
        )

    def test_bags_of_seven_turns(self):
        turns = [(name, ()) for name in range(7)]
        for bag in (
            [0] * 7, [0, 0, 0, 1, 1, 2, 2], [0, 1, 2, 3, 4, 5, 6], [0, 1, 2, 3, 4, 5, 5], [0, 6, 6, 6, 6, 6, 6],
        ):
            worth = ((0, 0), tuple(turns[name] for name in bag))
            counts = Counter(bag)
            lesser = []
            for many in product(*[range(counts[name] + 1) for name in range(7)]):
                lesser.append(((0, 0), tuple(turns[name] for name in range(7) for _ in range(many[name]))))
            self.assertEqual(bags_within(worth), tuple(sorted(lesser)))
            self.assertIn(worth, bags_within(worth))
            self.assertEqual(bags_within(worth)[0], B0)


def closed_by_trying(worths):
    """The least closed set that has the worths, made by putting in what is missing until nothing is."""
    whole = set(worths)
    while True:
        missing = {other for worth in whole for other in (*parts_of(worth), *bags_within(worth))} - whole
        if not missing:
            return tuple(sorted(whole))
        whole |= missing


class ClosedTest(GuardCase):
    def test_none(self):
        self.assertEqual(closed_worths(()), ())
        self.assertEqual(closed_worths([]), ())

    def test_ordinary_sets(self):
        made = made_worth(0, (B1,))
        turned = added_worth(made, 2, (B0,))
        self.assertEqual(closed_worths([B1, B0, B1]), (B0, B1))
        self.assertEqual(closed_worths((made,)), (B1, made))
        self.assertEqual(closed_worths((turned,)), (B0, B1, made, turned))
        inner = added_worth(B2, 1, ())
        self.assertEqual(closed_worths([made_worth(3, (inner,))]), (B2, inner, made_worth(3, (inner,))))

    def test_made_up_sets(self):
        rng = random.Random("sets")
        worths = made_up_worths(150, "closed")
        for _ in range(150):
            some = rng.sample(worths, rng.randint(1, 4))
            given = list(some)
            closed = closed_worths(some)
            self.assertEqual(closed, closed_by_trying(some))
            self.assertEqual(closed_worths(closed), closed)
            self.assertEqual(some, given)

    def test_bags_of_seven_turns(self):
        made = made_worth(9, (B1,))
        worth = B0
        for name in range(7):
            worth = added_worth(worth, name, (made,) if name % 2 else ())
        closed = closed_worths((worth,))
        self.assertEqual(len(closed), 128 + 2)
        self.assertEqual(closed, tuple(sorted((*bags_within(worth), B1, made))))

    def test_worths_nested_very_deep(self):
        self.assertEqual(closed_worths((deep_worth(32),)), tuple(deep_worth(levels) for levels in range(33)))
        closed = closed_worths((deep_turned_worth(32), B1))
        self.assertEqual(closed, tuple(sorted([B1, *[deep_turned_worth(levels) for levels in range(33)]])))


class TextTest(GuardCase):
    def test_texts(self):
        for worth, text in (
            (B0, "b0"), (B2, "b2"), (made_worth(0, ()), "0()"), (made_worth(12, (B0,)), "12(b0)"),
            (made_worth(3, (B0, made_worth(4, (B1, B2)))), "3(b0, 4(b1, b2))"),
            (added_worth(B1, 2, ()), "b1 + 2()"),
            (added_worth(added_worth(B1, 2, (B0, B2)), 1, ()), "b1 + 1() + 2(b0, b2)"),
            (added_worth(added_worth(B1, 2, ()), 2, ()), "b1 + 2() + 2()"),
            (made_worth(7, (added_worth(B0, 8, (B1,)), B1)), "7(b0 + 8(b1), b1)"),
            (added_worth(made_worth(7, (B0,)), 99, (made_worth(98, ()),)), "7(b0) + 99(98())"),
        ):
            self.assertEqual(worth_text(worth), text)

    def test_unlike_worths_have_unlike_texts(self):
        worths = set(made_up_worths(500, "texts"))
        self.assertEqual(len({worth_text(worth) for worth in worths}), len(worths))

    def test_worths_nested_very_deep(self):
        self.assertEqual(worth_text(deep_worth(32)), "0(" * 32 + "b0" + ")" * 32)
        self.assertEqual(worth_text(deep_turned_worth(32)), "b1 + 1(" * 32 + "b0" + ")" * 32)


if __name__ == "__main__":
    unittest.main()
