"""[6.6] to [6.9] and the first example of [6.10]: least facts."""

import itertools
import random
import unittest

from helper import (
    OTHER_KINDS, GuardCase, all_sets, blind_lot, clash, greatest_of, least_of, made_up_lots, made_up_pool,
    pool_facts,
)
from knownguards.errors import BadPool, BadWish, TooMany
from knownguards.facts import cells_floor, with_facts
from knownguards.leastfacts import (
    barring_facts, check_pool, check_wish, facts_fault, facts_let, fullest_facts, idle_facts, least_facts, same_let,
)
from knownguards.letting import is_let, let_weavings
from knownguards.lots import Lot
from knownguards.lottexts import lot_of_text
from knownguards.weavings import all_weavings

EXAMPLE = lot_of_text("2: any 0 as 0; any 1 as 1 | any 0 as 2; any 1 as 3")
ALL_ADDS = [("adds", 1, 1), ("adds", 0, 0), ("adds", 1, 0), ("adds", 0, 1)]
LOOKING = lot_of_text("2: kept 0; any 0 by 0 as 0 | any 0 as 1")
PAIR = lot_of_text("1: any 0 as 0; any 0 as 1 | any 0 as 2")


def let_by_each(lot, pool):
    """For each set of the pool the weavings that it lets."""
    return {chosen: let_weavings(with_facts(cells_floor(lot), chosen)) for chosen in all_sets(sorted(pool))}


def pools_of_lots(many, seed, most=4, total=5):
    """Lots of not too many steps with a pool of each, in any order, and what each set of it lets."""
    rng = random.Random(seed)
    lots = [lot for lot in made_up_lots(3 * many, seed) if len(lot) > 1 and lot.total <= total][:many]
    pools = [made_up_pool(rng, lot, rng.randint(0, most)) for lot in lots]
    return [(lot, pool, let_by_each(lot, pool)) for lot, pool in zip(lots, pools)]


class CheckPoolTest(GuardCase):
    def test_ascending_and_each_once(self):
        self.assertEqual(check_pool(PAIR, ()), ())
        self.assertEqual(check_pool(PAIR, []), ())
        facts = [("without", 0, 1, 0), ["kept", 1, 0], ("without", 0, 1, 0), ("adds", 0, 0), ["adds", 0, 0]]
        self.assertEqual(check_pool(PAIR, facts), (("adds", 0, 0), ("kept", 1, 0), ("without", 0, 1, 0)))
        self.assertIs(type(check_pool(PAIR, facts)[0]), tuple)

    def test_eight_items_with_doubles_and_no_more(self):
        eight = [("kept", 0, 0)] * 8
        self.assertEqual(check_pool(PAIR, eight), (("kept", 0, 0),))
        for pool in (eight + [("kept", 0, 0)], eight + [None], tuple(eight) * 2):
            self.refuses(BadPool, {"index": -1}, check_pool, PAIR, pool)
        lot = blind_lot(2, 2, 2)
        many = [("adds", program, place) for program in range(3) for place in range(2)]
        many += [("without", program, 1, 0) for program in range(2)]
        self.assertEqual(check_pool(lot, many[::-1]), tuple(many))

    def test_every_couple_of_facts(self):
        for one, other in itertools.product(pool_facts(PAIR), repeat=2):
            with self.subTest(one=one, other=other):
                if clash(one, other):
                    self.refuses(BadPool, {"index": 1}, check_pool, PAIR, (one, other))
                    self.refuses(BadPool, {"index": 2}, check_pool, PAIR, [list(one), one, list(other), None])
                else:
                    self.assertEqual(check_pool(PAIR, (one, other)), tuple(sorted({one, other})))

    def test_clashes_by_name(self):
        for one, other in itertools.permutations((("kept", 0, 1), ("adds", 0, 1), ("without", 0, 1, 1)), 2):
            self.refuses(BadPool, {"index": 2}, check_pool, PAIR, (one, ("without", 0, 1, 0), other))
        for fact in (("kept", 0, 1), ("adds", 0, 1), ("without", 0, 1, 1)):
            self.assertEqual(len(check_pool(PAIR, (("without", 0, 1, 0), fact, ("adds", 0, 0), ("kept", 1, 0)))), 4)

    def test_the_later_one_of_a_clash_wherever_it_stands(self):
        facts = [("adds", 0, 0), ("without", 0, 1, 0), ("kept", 1, 0), ("adds", 0, 0)]
        for at in range(5):
            pool = facts[:at] + [("kept", 0, 0)] + facts[at:]
            self.refuses(BadPool, {"index": at if at else 1}, check_pool, PAIR, pool)

    def test_what_is_no_sequence(self):
        for wrong in (*OTHER_KINDS, 0, -1, "kept", {("kept", 0, 0)}):
            self.refuses(BadPool, {"index": -1}, check_pool, PAIR, wrong)

    def test_what_is_no_fact_of_the_floor(self):
        wrongs = (*OTHER_KINDS, 0, "kept", (), ("kept",), ("kept", 0), ("kept", 0, 2), ("kept", 2, 0), ("kept", -1, 0),
                  ("kept", 0, False), ("adds", True, 0), ("adds", 0, 0, 0), ("without", 0, 0), ("without", 0, 0, 1),
                  ("without", 0, 0, False), ("any", 0, 0), (["kept"], 0, 0), ("same", 0, 0, 1, 0),
                  ["same", 0, 0, 0, 1], ("same", 0, 1, 0, 0))
        for wrong in wrongs:
            for at in range(3):
                pool = [("adds", 0, 1), ("without", 0, 1, 0)]
                pool.insert(at, wrong)
                self.refuses(BadPool, {"index": at}, check_pool, PAIR, pool)
                self.refuses(BadPool, {"index": at}, check_pool, PAIR, pool + [("kept", 0, 1), None])

    def test_each_set_of_a_pool_is_a_pool_and_goes_together(self):
        rng = random.Random("sets")
        for lot in made_up_lots(30, "sets"):
            pool = made_up_pool(rng, lot, 8)
            self.assertEqual(check_pool(lot, pool), tuple(sorted(pool)))
            for chosen in all_sets(pool)[::7]:
                self.assertEqual(check_pool(lot, chosen), tuple(sorted(chosen)))
                with_facts(cells_floor(lot), chosen)


class CheckWishTest(GuardCase):
    def test_tuples_in_the_order_given(self):
        wish = [[1, 0, 0], (0, 0, 1), [0, 1, 0], (0, 0, 1)]
        self.assertEqual(check_wish(PAIR, wish), ((1, 0, 0), (0, 0, 1), (0, 1, 0), (0, 0, 1)))
        self.assertEqual(check_wish(PAIR, ((0, 1, 0),) * 6), ((0, 1, 0),) * 6)

    def test_what_is_no_sequence_or_has_no_such_length(self):
        for wrong in (*OTHER_KINDS, 0, "010", (), [], [(0, 1, 0)] * 7, [None] * 7):
            self.refuses(BadWish, {"index": -1}, check_wish, PAIR, wrong)

    def test_the_first_that_is_no_weaving(self):
        for wrong in (*OTHER_KINDS, 0, "010", (), (0, 1), (0, 0, 0), (0, 1, 2), (0, True, 0), (0, 0, 1, 1)):
            for at in range(6):
                wish = [(0, 1, 0)] * at + [wrong] + [None] * (5 - at)
                self.refuses(BadWish, {"index": at}, check_wish, PAIR, wish)


class FactsLetTest(GuardCase):
    def test_every_set_of_some_pools(self):
        rng = random.Random("let")
        for lot, pool, let in pools_of_lots(20, "let"):
            for chosen in let:
                facts = list(chosen) + list(chosen[:1])
                rng.shuffle(facts)
                for weaving in all_weavings(lot):
                    self.assertIs(facts_let(lot, facts, [list(weaving)]), weaving in let[chosen])
                wish = rng.choices(all_weavings(lot), k=rng.randint(2, 6))
                self.assertIs(facts_let(lot, facts, wish), all(weaving in let[chosen] for weaving in wish))

    def test_more_facts_of_a_pool_let_no_less(self):
        for _, _, let in pools_of_lots(20, "more"):
            for less, more in itertools.product(let, repeat=2):
                if set(less) <= set(more):
                    self.assertLessEqual(set(let[less]), set(let[more]))

    def test_the_lot_is_taken_at_its_floor(self):
        self.assertTrue(is_let(LOOKING, (0, 1, 0)))
        self.assertFalse(facts_let(LOOKING, (), ((0, 1, 0),)))
        self.assertTrue(facts_let(LOOKING, (("kept", 0, 0), ("without", 0, 1, 1), ("without", 1, 0, 0)), ((0, 1, 0),)))
        self.assertTrue(facts_let(LOOKING, (["adds", 0, 1], ["kept", 0, 0], ["adds", 1, 0], ["without", 0, 1, 0]),
                                  ((0, 1, 0),)))

    def test_only_the_cells_count(self):
        rng = random.Random("floor")
        for lot, pool, _ in pools_of_lots(15, "floor"):
            other = Lot(lot.cells, [[(step[0], "any", (), 99) for step in steps] for steps in lot])
            wish = rng.choices(all_weavings(lot), k=2)
            for call in (facts_let, least_facts, barring_facts, facts_fault):
                self.assertEqual(call(lot, pool, wish), call(other, pool, wish))
            self.assertEqual(idle_facts(lot, pool), idle_facts(other, pool))
            self.assertEqual(same_let(lot, pool, ()), same_let(other, pool, ()))
            self.assertEqual(fullest_facts(lot, pool, pool[:1]), fullest_facts(other, pool, pool[:1]))


class LeastFactsTest(GuardCase):
    def test_the_example_of_the_document(self):
        wish = ((0, 1, 1, 0),)
        at_0, at_1 = (("adds", 0, 0), ("adds", 1, 0)), (("adds", 0, 1), ("adds", 1, 1))
        self.assertFalse(facts_let(EXAMPLE, (), wish))
        self.assertEqual(least_facts(EXAMPLE, ALL_ADDS, wish), (at_0, at_1))
        self.assertEqual(barring_facts(EXAMPLE, ALL_ADDS, wish),
                         tuple(tuple(sorted(couple)) for couple in itertools.product(at_0, at_1)))
        self.assertEqual(idle_facts(EXAMPLE, ALL_ADDS), ())

    def test_no_fact_needed_and_none_enough(self):
        pool = (("adds", 0, 0), ("kept", 0, 1))
        self.assertEqual(least_facts(EXAMPLE, pool, [(0, 0, 1, 1)]), ((),))
        self.assertEqual(barring_facts(EXAMPLE, pool, [(0, 0, 1, 1)]), ())
        self.assertEqual(least_facts(EXAMPLE, pool[:1], [(0, 1, 1, 0)]), ())
        self.assertEqual(barring_facts(EXAMPLE, pool[:1], [(0, 1, 1, 0)]), (pool[:1],))
        self.assertEqual(least_facts(EXAMPLE, (), [(0, 0, 1, 1)]), ((),))
        self.assertEqual(least_facts(EXAMPLE, (), [(0, 1, 1, 0)]), ())
        self.assertEqual(barring_facts(EXAMPLE, (), [(0, 1, 1, 0)]), ((),))
        self.assertEqual(barring_facts(EXAMPLE, (), [(0, 0, 1, 1)]), ())

    def check_all_sets(self, lot, pool, let, wish):
        """The least and the barring sets, by going through all sets; returns them."""
        letting = [chosen for chosen in let if all(weaving in let[chosen] for weaving in wish)]
        barring = [chosen for chosen in let if chosen not in letting]
        least, greatest = least_of(letting), greatest_of(barring)
        self.assertEqual(least_facts(lot, pool, wish), least)
        self.assertEqual(barring_facts(lot, pool, wish), greatest)
        for chosen in let:
            word = "lets" if chosen in barring else None if chosen in least else "least"
            self.assertEqual(facts_fault(lot, list(chosen)[::-1], wish), word)
            hits = all(set(chosen) - set(barred) for barred in greatest)
            self.assertEqual(hits, any(set(one) <= set(chosen) for one in least))
        for fact in pool:
            if letting:
                without = tuple(other for other in sorted(set(pool)) if other != fact)
                self.assertEqual(all(fact in one for one in least), without in barring)
        return least, greatest

    def test_all_sets_of_some_pools(self):
        rng = random.Random("least")
        several = 0
        for lot, pool, let in pools_of_lots(40, "least", most=5):
            for wish in [[weaving] for weaving in all_weavings(lot)] + [rng.choices(all_weavings(lot), k=3)]:
                least, greatest = self.check_all_sets(lot, pool + pool[:1], let, wish)
                several += len(least) > 1 and len(greatest) > 1
        self.assertGreater(several, 5)

    def test_a_pool_of_eight_facts(self):
        lot = lot_of_text("2: any 0 as 0; any 1 as 1; any 0 as 2 | any 0 as 3; any 1 as 4")
        pools = (
            [("adds", 0, 0), ("kept", 0, 1), ("without", 0, 2, 0), ("without", 0, 2, 1), ("without", 0, 2, 2),
             ("adds", 1, 1), ("without", 1, 0, 0), ("without", 1, 1, 0)],
            [("adds", 1, 0), ("without", 0, 1, 0), ("without", 1, 1, 0), ("adds", 0, 0), ("adds", 0, 2),
             ("without", 0, 2, 1), ("adds", 1, 1), ("adds", 0, 1)],
        )
        for pool in pools:
            let = let_by_each(lot, pool)
            self.assertEqual(len(let), 256)
            self.check_all_sets(lot, pool, let, [all_weavings(lot)[1]])
            self.check_all_sets(lot, pool, let, [all_weavings(lot)[2], all_weavings(lot)[3]])

    def test_wishes_of_several_weavings_put_least_sets_together(self):
        rng = random.Random("several")
        for lot, pool, let in pools_of_lots(25, "several"):
            wish = rng.choices(all_weavings(lot), k=rng.randint(2, 6))
            sets = [least_facts(lot, pool, [weaving]) for weaving in wish]
            together = {tuple(sorted({fact for one in ones for fact in one})) for ones in itertools.product(*sets)}
            ordered = sorted(together, key=lambda one: (len(one), one))
            self.assertEqual(least_facts(lot, pool, wish), least_of(ordered))
            self.assertEqual(least_facts(lot, pool, wish), least_facts(lot, pool, wish[::-1] + wish[:6 - len(wish)]))

    def test_judge(self):
        wish = [(0, 1, 1, 0)]
        self.assertEqual(facts_fault(EXAMPLE, [("adds", 0, 0), ("adds", 1, 1)], wish), "lets")
        self.assertEqual(facts_fault(EXAMPLE, ALL_ADDS, wish), "least")
        self.assertIsNone(facts_fault(EXAMPLE, [["adds", 1, 0], ("adds", 0, 0)], wish))
        self.assertIsNone(facts_fault(EXAMPLE, [], [(0, 0, 1, 1)]))
        self.assertEqual(facts_fault(EXAMPLE, [("adds", 0, 0)], [(0, 0, 1, 1)]), "least")


class SameLetTest(GuardCase):
    def test_all_couples_of_sets_of_some_pools(self):
        for lot, pool, let in pools_of_lots(15, "same", most=3):
            for one, other in itertools.product(let, repeat=2):
                unlike = set(let[one]) ^ set(let[other])
                self.assertEqual(same_let(lot, list(one), other[::-1]), min(unlike) if unlike else None)

    def test_pools_that_do_not_go_together_with_each_other(self):
        adds = [("adds", 0, 0), ("adds", 1, 0), ("adds", 0, 1)]
        kept = [("kept", 0, 0), ("kept", 0, 1)]
        self.assertIsNone(same_let(PAIR, adds, kept))
        self.assertEqual(same_let(PAIR, (), kept), (0, 1, 0))
        self.assertEqual(same_let(PAIR, adds, adds[:1]), (0, 1, 0))


class IdleFactsTest(GuardCase):
    def test_all_sets_of_some_pools(self):
        found = 0
        for lot, pool, let in pools_of_lots(40, "idle", most=5):
            idle = tuple(
                fact for fact in sorted(pool)
                if all(set(let[one]) == set(let[tuple(sorted((*one, fact)))]) for one in let if fact not in one)
            )
            self.assertEqual(idle_facts(lot, pool + pool[:2]), idle)
            found += 0 < len(idle) < len(pool)
            least = [one for weaving in all_weavings(lot) for one in least_facts(lot, pool, [weaving])]
            self.assertEqual(idle, tuple(fact for fact in sorted(pool) if not any(fact in one for one in least)))
            for chosen in let:
                with_idle = tuple(sorted({*chosen, *idle}))
                without = tuple(fact for fact in chosen if fact not in idle)
                self.assertEqual(let[chosen], let[with_idle])
                self.assertEqual(let[chosen], let[without])
        self.assertGreater(found, 5)

    def test_a_fact_of_a_program_that_stands_alone(self):
        lot = lot_of_text("2: any 0 as 0 | any 1 as 1")
        self.assertEqual(idle_facts(lot, [["kept", 1, 0], ("adds", 0, 0)]), (("adds", 0, 0), ("kept", 1, 0)))
        self.assertEqual(idle_facts(lot, ()), ())


class FullestFactsTest(GuardCase):
    def test_all_sets_of_some_pools(self):
        several = 0
        for lot, pool, let in pools_of_lots(40, "fullest"):
            for facts in let:
                alike = [one for one in let if set(facts) <= set(one) and let[one] == let[facts]]
                found = fullest_facts(lot, pool, [list(fact) for fact in facts[::-1]] + list(facts[:2]))
                self.assertEqual(found, greatest_of(alike))
                several += len(found) > 1
        self.assertGreater(several, 0)

    def test_two_facts_of_which_each_alone_lets_no_more(self):
        lot = lot_of_text("1: any 0 as 0; any 0 as 1 | any 0 as 2")
        pool = [("adds", 0, 0), ("adds", 0, 1), ("adds", 1, 0)]
        self.assertEqual(fullest_facts(lot, pool, []), ((("adds", 1, 0),), (("adds", 0, 0), ("adds", 0, 1))))
        self.assertEqual(fullest_facts(lot, pool, pool), (tuple(pool),))

    def test_by_the_barring_sets(self):
        for lot, pool, let in pools_of_lots(20, "barring"):
            for facts in let:
                barred = [weaving for weaving in all_weavings(lot) if weaving not in let[facts]]
                barring = {weaving: barring_facts(lot, pool, [weaving]) for weaving in barred}
                for one in let:
                    if set(facts) <= set(one):
                        within = all(any(set(one) <= set(most) for most in barring[weaving]) for weaving in barred)
                        self.assertEqual(let[one] == let[facts], within)


class TooManyTest(GuardCase):
    def pool(self, many):
        return [("without", program, 1, pocket) for program in range(3) for pocket in range(2)][:many]

    def test_up_to_two_thousand(self):
        lot = blind_lot(2, 2, 2)
        for many, count in ((5, 2880), (6, 5760)):
            self.refuses(TooMany, {"count": count}, idle_facts, lot, self.pool(many))
            self.refuses(TooMany, {"count": count}, fullest_facts, lot, self.pool(many), self.pool(1))
        self.assertEqual(len(all_weavings(lot)) * 2 ** 4, 1440)
        idle_facts(lot, self.pool(4))
        fullest_facts(lot, self.pool(4), self.pool(1))

    def test_doubles_of_the_pool_do_not_count(self):
        lot = blind_lot(2, 2, 2)
        idle_facts(lot, self.pool(4) * 2)
        fullest_facts(lot, self.pool(4) * 2, ())

    def test_two_hundred_and_ten_weavings(self):
        lot = blind_lot(2, 3, 2)
        self.refuses(TooMany, {"count": 3360}, idle_facts, lot, self.pool(4))
        self.assertLessEqual(len(idle_facts(lot, self.pool(3))), 3)

    def test_it_is_the_last_error(self):
        lot = blind_lot(2, 2, 2)
        self.refuses(BadPool, {"index": 5}, idle_facts, lot, self.pool(5) + [None])
        self.refuses(BadPool, {"index": 5}, fullest_facts, lot, self.pool(5) + [None], None)
        self.refuses(BadPool, {"index": 0}, fullest_facts, lot, self.pool(5), [None])
        self.refuses(BadPool, {"index": -1}, fullest_facts, lot, self.pool(5), None)

    def test_the_others_take_any(self):
        lot, wish = blind_lot(2, 2, 2), [(0, 1, 2, 0, 1, 2)]
        self.assertTrue(facts_let(lot, self.pool(6), wish))
        least = least_facts(lot, self.pool(6), wish)
        self.assertEqual([facts_fault(lot, facts, wish) for facts in least], [None] * len(least))
        self.assertTrue(all(len(barred) < 6 for barred in barring_facts(lot, self.pool(6), wish)))
        unlike = same_let(lot, self.pool(6), self.pool(5))
        self.assertTrue(facts_let(lot, self.pool(6), [unlike]) and not facts_let(lot, self.pool(5), [unlike]))


class ErrorsTest(GuardCase):
    wrong_pools = ((None, -1), (True, -1), ("kept", -1), ([("kept", 0, 0)] * 9, -1), ([None], 0),
                   ([("kept", 0, 0), ("kept", False, 0)], 1), ([("kept", 0, 0), ("adds", 0, 0), None], 1))

    def test_bad_pools_come_ahead_of_bad_wishes(self):
        for call in (facts_let, least_facts, barring_facts, facts_fault):
            for pool, index in self.wrong_pools:
                self.refuses(BadPool, {"index": index}, call, PAIR, pool, None)
            for wish, index in ((None, -1), ((), -1), ([(0, 1, 0)] * 7, -1), ([(0, 1, 0), (0, 1, True)], 1)):
                self.refuses(BadWish, {"index": index}, call, PAIR, [], wish)

    def test_bad_pools_of_one_then_of_the_other(self):
        for pool, index in self.wrong_pools:
            self.refuses(BadPool, {"index": index}, same_let, PAIR, pool, [None, None])
            self.refuses(BadPool, {"index": index}, same_let, PAIR, [("kept", 0, 0)], pool)
            self.refuses(BadPool, {"index": index}, idle_facts, PAIR, pool)
            self.refuses(BadPool, {"index": index}, fullest_facts, PAIR, pool, [None, None, None])

    def test_facts_that_are_none_of_the_pool(self):
        pool = [("kept", 0, 0), ("kept", 0, 1), ("kept", 1, 0)]
        for wrong in (*OTHER_KINDS, 0, "kept", {("kept", 0, 0)}):
            self.refuses(BadPool, {"index": -1}, fullest_facts, PAIR, pool, wrong)
        for wrong in (*OTHER_KINDS, 0, (), ("adds", 0, 0), ("kept", True, 0), ["kept", 0, False], ("kept", 0, 2),
                      ("kept", 0, 1.0), ("kept", 0), ("without", 0, 1, 0), ("same", 0, 0, 0, 1)):
            for at in range(3):
                facts = [["kept", 0, 0]] * at + [wrong] + [None] * 2
                self.refuses(BadPool, {"index": at}, fullest_facts, PAIR, pool, facts)
        self.assertEqual(fullest_facts(PAIR, pool, [["kept", 1, 0]] * 20), (tuple(pool),))

    def test_nothing_that_is_passed_in_is_changed(self):
        pool, wish = [["kept", 1, 0], ["adds", 0, 0], ["adds", 0, 0]], [[0, 1, 0], [1, 0, 0]]
        programs = PAIR.programs
        for call in (facts_let, least_facts, barring_facts, facts_fault):
            call(PAIR, pool, wish)
        check_pool(PAIR, pool)
        check_wish(PAIR, wish)
        same_let(PAIR, pool, pool)
        idle_facts(PAIR, pool)
        fullest_facts(PAIR, pool, pool)
        self.assertEqual(pool, [["kept", 1, 0], ["adds", 0, 0], ["adds", 0, 0]])
        self.assertEqual((wish, PAIR.programs), ([[0, 1, 0], [1, 0, 0]], programs))

    def test_tuples_throughout(self):
        found = least_facts(EXAMPLE, [list(fact) for fact in ALL_ADDS], [[0, 1, 1, 0]])
        self.assertEqual(repr(found), repr(least_facts(EXAMPLE, ALL_ADDS, ((0, 1, 1, 0),))))
        self.assertEqual(repr(check_pool(PAIR, [["without", 0, 1, 0]])), "(('without', 0, 1, 0),)")
        self.assertEqual(repr(check_wish(PAIR, [[0, 1, 0]])), "((0, 1, 0),)")


if __name__ == "__main__":
    unittest.main()
