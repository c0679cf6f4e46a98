"""[27] and [8] medians: measured by the plans between each two of three, and by all plans."""

import itertools
import random
import unittest

import helper
from helper import called, check
from sparehop.apart import apart, distance
from sparehop.between import is_between
from sparehop.differences import differences
from sparehop.medians import is_median, median, nearest_with
from sparehop.precedence import closed_with

SMALL_FLEETS = (helper.SMALL, helper.ALONE, helper.STILL, helper.SOME, *helper.drawn_fleets(8, 4, 5, 85))


def distances(fleet):
    """For each plan the dict to how many edits lead from it to each plan."""
    return {plan: helper.plain_needed(fleet, (), plan) for plan in helper.plain_plans(fleet)}


def triples_of(fleet, many, seed):
    """Triples of plans, with equal ones among them."""
    plans = helper.plain_plans(fleet)
    chosen = random.Random(seed)
    drawn = [tuple(chosen.choice(plans) for _ in range(3)) for _ in range(many)]
    return [*itertools.product(plans[:1] + plans[-2:], repeat=3), *drawn]


def parts_of_leases(chosen, fleet):
    """Some ascending tuples of leases, that of none and that of all among them."""
    leases = tuple(helper.plain_leases(fleet))
    return [(), leases, *[(lease,) for lease in leases], *[helper.drawn_part(chosen, leases) for _ in range(4)]]


class Medians(unittest.TestCase):

    def test_exactly_one_plan_is_between_each_two_of_three(self):
        for seed, fleet in enumerate(SMALL_FLEETS):
            far = distances(fleet)
            for one, other, third in triples_of(fleet, 80, seed):
                between = [plan for plan in far if far[one][plan] + far[plan][other] == far[one][other]
                           and far[other][plan] + far[plan][third] == far[other][third]
                           and far[one][plan] + far[plan][third] == far[one][third]]
                (expected,) = between
                check(self, expected, median, fleet, one, other, third)
                for order in itertools.permutations((one, other, third)):
                    self.assertEqual(median(fleet, *order), expected)
                for plan in list(far)[::3] + between:
                    self.assertIs(is_median(fleet, one, other, third, plan), plan == expected)

    def test_the_median_of_three_in_a_class_is_in_it(self):
        chosen = random.Random(86)
        for fleet in SMALL_FLEETS:
            for plan in helper.plain_plans(fleet)[::3]:
                pins = helper.drawn_part(chosen, helper.later_leases(fleet))
                plans = list(helper.plain_needed(fleet, pins, plan))
                for _ in range(12):
                    self.assertIn(median(fleet, *(chosen.choice(plans) for _ in range(3))), plans)

    def test_equal_plans_and_no_restarts(self):
        for fleet in (*SMALL_FLEETS, helper.LARGE):
            for one in ((), tuple(range(len(fleet[2])))):
                for other in ((), tuple(range(len(fleet[2])))[::2]):
                    for three in ((one, one, other), (one, other, one), (other, one, one), (one, one, one)):
                        check(self, one, median, fleet, *three)
                        check(self, True, is_median, fleet, *three, one)

    def test_one_service(self):
        fleet = (("a",), (0,), ("a",) * 4)
        check(self, (0, 2), median, fleet, (0, 3), (0, 2), (3,))
        check(self, (0, 1, 2, 3), median, fleet, (0, 3), (2, 3), (0, 1))
        check(self, (0, 1), nearest_with, fleet, (), (0, 2), (("a", 1), ("a", 3)))

    def test_values_that_are_no_medians(self):
        rows = ((helper.SMALL, (), (0, 1), (1,)), (helper.SMALL, (0,), (0, 1), (1,)), (helper.ALONE, (), (), ()),
                (helper.SOME, (0, 1), (1, 2), (0, 2, 3)))
        for fleet, *three in rows:
            right = repr(median(fleet, *three))
            things = helper.every_kind()
            for plan in helper.plain_plans(fleet):
                things += [plan, *helper.otherwise(plan)]
            for thing in things:
                check(self, repr(thing) == right, is_median, fleet, *three, thing)

    def test_far_apart(self):
        for fleet, one, other in helper.FAR:
            for third in ((), tuple(range(0, 60, 3)), one, tuple(range(30))):
                told = helper.quick(self, median, fleet, one, other, third)
                for pair in itertools.combinations((one, other, third), 2):
                    self.assertIs(is_between(fleet, *pair, told), True)
                self.assertIs(helper.quick(self, is_median, fleet, one, other, third, told), True)


class NearestWith(unittest.TestCase):

    def test_pairs_of_plans(self):
        chosen = random.Random(87)
        for seed, fleet in enumerate(SMALL_FLEETS):
            far = distances(fleet)
            for one, other in helper.pairs_of_plans(fleet, 12, seed):
                aparts = {plan: helper.plain_aparts(fleet, other, plan) for plan in far}
                for leases in parts_of_leases(chosen, fleet):
                    suiting = [plan for plan in far if not any(aparts[plan][lease] for lease in leases)]
                    least = min(far[one][plan] for plan in suiting)
                    (expected,) = [plan for plan in suiting if far[one][plan] == least]
                    check(self, expected, nearest_with, fleet, one, other, leases)
                    for plan in suiting:
                        self.assertEqual(least + far[expected][plan], far[one][plan])

    def test_its_differences(self):
        chosen = random.Random(88)
        for fleet in (helper.LARGE, *helper.drawn_fleets(3, 8, 60, 89)):
            every = tuple(range(len(fleet[2])))
            one, other = helper.drawn_part(chosen, every), helper.drawn_part(chosen, every)
            for _ in range(5):
                leases = helper.drawn_part(chosen, helper.plain_leases(fleet))
                told = called(self, nearest_with, fleet, one, other, leases)
                lot = tuple(item for item in differences(fleet, one, other) if item[0] in leases)
                self.assertEqual(differences(fleet, one, told), closed_with(fleet, one, other, lot))

    def test_no_leases_and_all_leases(self):
        for seed, fleet in enumerate((*SMALL_FLEETS, helper.LARGE)):
            every = tuple(range(len(fleet[2])))
            for one, other in (((), every), (every, every[::2]), (every[1:], ())):
                check(self, one, nearest_with, fleet, one, other, ())
                check(self, one, nearest_with, fleet, one, other, tuple((s, 0) for s in fleet[0]))
                check(self, other, nearest_with, fleet, one, other, tuple(helper.plain_leases(fleet)))

    def test_far_apart(self):
        for fleet, one, other in helper.FAR:
            for leases in (helper.later_leases(fleet)[::3], ((fleet[2][30], 31),)):
                told = helper.quick(self, nearest_with, fleet, one, other, leases)
                self.assertEqual([apart(fleet, told, other, lease) for lease in leases], [0] * len(leases))
                self.assertIs(is_between(fleet, one, other, told), True)
                self.assertLessEqual(distance(fleet, one, told), distance(fleet, one, other))


if __name__ == "__main__":
    unittest.main()
