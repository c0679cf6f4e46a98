"""[29], [30] and [9] merges: measured by going through all plans of drawn small fleets."""

import itertools
import random
import time
import unittest

import helper
from helper import called, check, check_raised
from sparehop.apart import distance
from sparehop.between import plans_between
from sparehop.differences import differences
from sparehop.edits import run
from sparehop.errors import NoMerge
from sparehop.leading import is_shortest
from sparehop.medians import median
from sparehop.merges import (
    also_taken_back, common, merged, merged_all, quarrel, quarrels, rebased, taken_back,
)

SMALL_FLEETS = (helper.SMALL, helper.ALONE, helper.STILL, helper.SOME, *helper.drawn_fleets(10, 4, 5, 100))


def triples(fleet, many, seed):
    chosen = random.Random(seed)
    pairs = helper.pairs_of_plans(fleet, many, seed)
    return [(chosen.choice(helper.plain_plans(fleet)), one, other) for one, other in pairs]


class Merges(unittest.TestCase):

    def test_a_plan_has_just_the_differences_of_both_exactly_if_none_quarrel(self):
        found = {True: 0, False: 0}
        for seed, fleet in enumerate(SMALL_FLEETS):
            for base, one, other in triples(fleet, 60, seed):
                lots = helper.plans_by_lots(fleet, base)
                firsts, seconds = (helper.plain_differences(fleet, base, plan) for plan in (one, other))
                both = [(x, y) for x, y in itertools.product(firsts, seconds) if helper.plain_quarrel(fleet, base, x, y)]
                check(self, tuple(sorted(both)), quarrels, fleet, base, one, other)
                expected = lots.get(frozenset(firsts) | frozenset(seconds))
                self.assertEqual(expected is None, bool(both))
                found[bool(both)] += 1
                self.check_merged(fleet, base, one, other, expected, sorted(both))
                check(self, lots[frozenset(firsts) & frozenset(seconds)], common, fleet, base, one, other)
                check(self, median(fleet, base, one, other), common, fleet, base, one, other)
        self.assertGreater(min(found.values()), 60)

    def check_merged(self, fleet, base, one, other, expected, both):
        if expected is None:
            for function in (merged, rebased):
                check_raised(self, NoMerge(both[0]), function, fleet, base, one, other)
            check_raised(self, NoMerge(both[0]), merged_all, fleet, base, (one, other))
        else:
            check(self, expected, merged, fleet, base, one, other)
            check(self, expected, merged_all, fleet, base, (one, other))
            script = called(self, rebased, fleet, base, one, other)
            self.assertTrue(is_shortest(fleet, (), one, expected, script))
            self.assertEqual(helper.plain_behind(fleet, one, (), script), expected)

    def test_two_differences(self):
        for seed, fleet in enumerate(SMALL_FLEETS):
            for base, one, other in triples(fleet, 20, seed):
                firsts, seconds = differences(fleet, base, one), differences(fleet, base, other)
                for first, second in itertools.product(firsts[:6], seconds[:6]):
                    expected = helper.plain_quarrel(fleet, base, first, second)
                    check(self, expected, quarrel, fleet, base, first, second)
                    check(self, expected, quarrel, fleet, base, second, first)
                for first in firsts:
                    check(self, False, quarrel, fleet, base, first, first)

    def test_differences_whose_leases_share_nothing_or_that_are_of_one_lease(self):
        first, other = (("a", 1), ((), "a")), (("a", 3), ((), "a"))
        check(self, False, quarrel, helper.SMALL, (), first, other)
        fleet = (("a", "b", "c"), (0, 1, 2), ("b", "c", "a", "b"))
        edges = (((), "a"), (("b",), "a"), (("c",), "a"), (("b", "c"), "a"))
        told = [[quarrel(fleet, (), (("a", 3), x), (("a", 3), y)) for y in edges] for x in edges]
        self.assertEqual(told, [[x != y for y in edges] for x in edges])
        fleet = (("a", "b"), (0, 1), ("a", "b", "a"))
        near, far = (("a", 3), ((), "a")), (("a", 3), (("a", "b"), "a"))
        check(self, False, quarrel, fleet, (), near, far)
        check(self, True, quarrel, fleet, (), (("a", 3), (("b",), "a")), far)

    def test_equal_plans_and_no_hops_and_no_restarts(self):
        for fleet in (*SMALL_FLEETS, helper.LARGE):
            for plan in ((), tuple(range(len(fleet[2]))), tuple(range(0, len(fleet[2]), 2))):
                check(self, (), quarrels, fleet, (), plan, plan)
                check(self, (), quarrels, fleet, plan, (), plan)
                check(self, plan, merged, fleet, (), plan, plan)
                check(self, plan, merged, fleet, (), plan, ())
                check(self, plan, merged, fleet, (), (), plan)
                check(self, (), merged, fleet, plan, (), plan)
                check(self, plan, common, fleet, (), plan, plan)
                check(self, (), common, fleet, (), plan, ())
                check(self, (), rebased, fleet, (), plan, plan)
                check(self, plan, merged_all, fleet, plan, ())
                check(self, plan, merged_all, fleet, (), (plan,) * 3)
                check(self, plan, merged_all, fleet, (), ((), plan, ()))
                check(self, plan, taken_back, fleet, (), plan, ())
                check(self, (), also_taken_back, fleet, (), plan, ())
                check(self, plan, taken_back, fleet, plan, plan, ())

    def test_each_order_merges_to_the_same(self):
        for seed, fleet in enumerate(SMALL_FLEETS):
            for base, one, other in triples(fleet, 30, seed):
                kind, plan = helper.outcome(merged, (fleet, base, one, other))
                swapped = helper.outcome(merged, (fleet, base, other, one))
                self.assertEqual(kind, swapped[0])
                if kind == "returned":
                    self.assertEqual(plan, swapped[1])
                    lot = set(differences(fleet, base, one)) | set(differences(fleet, base, other))
                    self.assertEqual(set(differences(fleet, base, plan)), lot)
                    self.assertEqual(distance(fleet, base, plan), len(lot))

    def test_many_plans(self):
        chosen = random.Random(101)
        found = {True: 0, False: 0}
        for fleet in SMALL_FLEETS:
            plans = helper.plain_plans(fleet)
            for _ in range(80):
                base = chosen.choice(plans)
                near = [plan for plan in plans if distance(fleet, base, plan) <= chosen.choice((1, 2, 9, 99))]
                told = tuple(chosen.choice(near) for _ in range(chosen.randint(0, 5)))
                both = [(i, j) for i in range(len(told)) for j in range(i + 1, len(told))
                        if quarrels(fleet, base, told[i], told[j])]
                found[bool(both)] += 1
                if both:
                    one, other = (told[index] for index in both[0])
                    check_raised(self, NoMerge(quarrels(fleet, base, one, other)[0]), merged_all, fleet, base, told)
                else:
                    lot = frozenset(item for plan in told for item in differences(fleet, base, plan))
                    check(self, helper.plans_by_lots(fleet, base)[lot], merged_all, fleet, base, told)
        self.assertGreater(min(found.values()), 100)

    def test_the_first_two_that_quarrel_are_told_by_the_least_indexes(self):
        first = NoMerge(quarrels(helper.SMALL, (), (2,), (1,))[0])
        check_raised(self, first, merged_all, helper.SMALL, (), ((2,), (0, 2), (1,)))
        swapped = NoMerge(quarrels(helper.SMALL, (), (1,), (2,))[0])
        check_raised(self, swapped, merged_all, helper.SMALL, (), ((1,), (), (1,), (2,)))
        # a is away in the stretches 1 and 2, b in those from 2 to 4, and c from 4 on.
        fleet = helper.letters("abacb")
        a, b, far = (0, 2), (1, 4), (3,)
        expected = NoMerge(quarrels(fleet, (), far, b)[0])
        self.assertEqual(quarrels(fleet, (), far, a), ())
        self.assertTrue(quarrels(fleet, (), a, b))
        check_raised(self, expected, merged_all, fleet, (), (far, a, (), b, b))
        check_raised(self, NoMerge(quarrels(fleet, (), a, b)[0]), merged_all, fleet, (), ((), a, (), b, far))

    def test_plans_on_the_ways_to_two_others(self):
        chosen = random.Random(104)
        found = set()
        for fleet in helper.drawn_fleets(60, 3, 9, 105):
            base, *goals = (helper.drawn_part(chosen, range(len(fleet[2]))) for _ in range(3))
            rows = [called(self, plans_between, fleet, base, goal) for goal in goals]
            for _ in range(8):
                told = tuple(chosen.choice(chosen.choice(rows)) for _ in range(chosen.randint(2, 6)))
                both = [(i, j) for i in range(len(told)) for j in range(i + 1, len(told))
                        if quarrels(fleet, base, told[i], told[j])]
                found.add(both[0] if both else None)
                if both:
                    one, other = (told[index] for index in both[0])
                    check_raised(self, NoMerge(quarrels(fleet, base, one, other)[0]), merged_all, fleet, base, told)
                else:
                    lot = {item for plan in told for item in differences(fleet, base, plan)}
                    self.assertEqual(set(differences(fleet, base, merged_all(fleet, base, told))), lot)
        self.assertGreater(len(found), 6)

    def test_two_that_part_late_and_one_that_parts_early(self):
        # In stretch 5 two plans have the words a b c and a b d, and one has e, but only there.
        fleet = helper.letters("abcdee")
        for told in itertools.permutations(((4, 5), (0, 1, 2), (0, 1, 3), ())):
            pairs = [(i, j) for i in range(4) for j in range(i + 1, 4) if quarrels(fleet, (), told[i], told[j])]
            one, other = (told[index] for index in pairs[0])
            check_raised(self, NoMerge(quarrels(fleet, (), one, other)[0]), merged_all, fleet, (), told)

    def test_long_rows_of_plans(self):
        fleet = helper.LARGE
        chosen = random.Random(102)
        plans = tuple(tuple(sorted(chosen.sample(range(40, 60), 3))) for _ in range(300))
        told = helper.quick(self, merged_all, fleet, (), plans)
        both = ((i, j) for i in range(300) for j in range(i + 1, 300) if quarrels(fleet, (), plans[i], plans[j]))
        one, other = (plans[index] for index in next(both))
        self.assertEqual(told.quarrel, quarrels(fleet, (), one, other)[0])
        single = tuple((lease[1] - 1,) for lease in helper.later_leases(helper.LONGEST)) * 10
        merged_one = helper.quick(self, merged_all, helper.LONGEST, (), (*single, ()))
        self.assertEqual(set(differences(helper.LONGEST, (), merged_one)),
                         {item for plan in single for item in differences(helper.LONGEST, (), plan)})

    def test_far_apart(self):
        found = {True: 0, False: 0}
        for fleet, one, other in helper.FAR:
            half = tuple(j for j in one if j < 30)
            for base, first, second in ((one, other, half), (half, one, other), (other, half, one),
                                        (half, (), tuple(range(0, 60, 2))), (one, other, other[:-9])):
                lots = [differences(fleet, base, plan) for plan in (first, second)]
                told = helper.quick(self, quarrels, fleet, base, first, second)
                self.assertEqual(list(told), sorted(set(told)))
                for x, y in told[::len(told) // 20 + 1]:
                    self.assertIs(quarrel(fleet, base, x, y), True)
                merge = helper.quick(self, merged, fleet, base, first, second)
                found[bool(told)] += 1
                if told:
                    self.assertTrue(helper.same(merge, NoMerge(told[0])))
                else:
                    self.assertEqual(set(differences(fleet, base, merge)), set(lots[0]) | set(lots[1]))
                    script = helper.quick(self, rebased, fleet, base, first, second)
                    self.assertEqual(run(fleet, first, (), script), merge)
                shared = helper.quick(self, common, fleet, base, first, second)
                self.assertEqual(set(differences(fleet, base, shared)), set(lots[0]) & set(lots[1]))
        self.assertGreater(min(found.values()), 5)

    def test_so_many_quarrel(self):
        # In a stretch k one plan is k hops away along a, b, a .. , the other one k - 1 along b, a, b ..
        fleet, one, other = helper.FAR[0]
        lots = [differences(fleet, (), plan) for plan in (one, other)]
        begun = time.perf_counter()
        told = quarrels(fleet, (), one, other)
        self.assertLess(time.perf_counter() - begun, 10)
        stretches = {lease: set(helper.plain_stretches(fleet, lease)) for lease in helper.plain_leases(fleet)}
        expected = [(x, y) for x in lots[0] for y in lots[1] if stretches[x[0]] & stretches[y[0]]]
        self.assertGreater(len(expected), 30000)
        self.assertEqual(list(told), expected)


class TakenBack(unittest.TestCase):

    def test_pairs_of_plans(self):
        chosen = random.Random(103)
        for seed, fleet in enumerate(SMALL_FLEETS):
            for base, one in helper.pairs_of_plans(fleet, 40, seed):
                before = helper.plain_preceding(fleet, base, one)
                lots = helper.plans_by_lots(fleet, base)
                for lot in {(), tuple(before), helper.drawn_part(chosen, before), tuple(before)[:1], tuple(before)[-1:]}:
                    gone = {item for item in before if item in lot or before[item] & set(lot)}
                    plan = lots[frozenset(before) - frozenset(gone)]
                    check(self, plan, taken_back, fleet, base, one, lot)
                    check(self, tuple(sorted(gone - set(lot))), also_taken_back, fleet, base, one, lot)
                    # Fewer cannot be taken back with lot: no plan keeps more.
                    for kept in lots:
                        if kept <= set(before) and not kept & set(lot):
                            self.assertLessEqual(kept, frozenset(before) - frozenset(gone))

    def test_some_of_lot_precede_others_of_it(self):
        lot = differences(helper.SMALL, (), (0, 1))
        for part, expected, more in (
                (lot, (), ()), (lot[:1], (2,), lot[2:]), (lot[1:2], (0, 2), lot[2:]), (lot[2:], (0,), ()),
                (lot[:2], (), lot[2:]), (lot[1:], (0, 2), ())):
            check(self, expected, taken_back, helper.SMALL, (), (0, 1), part)
            check(self, more, also_taken_back, helper.SMALL, (), (0, 1), part)

    def test_far_apart(self):
        for fleet, base, one in helper.FAR:
            lot = differences(fleet, base, one)
            for part in ((), lot, lot[:1], lot[-1:], lot[::7], lot[len(lot) // 2:]):
                plan = helper.quick(self, taken_back, fleet, base, one, part)
                more = helper.quick(self, also_taken_back, fleet, base, one, part)
                self.assertEqual(set(differences(fleet, base, plan)), set(lot) - set(part) - set(more))
                self.assertFalse(set(more) & set(part))
                self.assertEqual(list(more), sorted(more))


if __name__ == "__main__":
    unittest.main()
