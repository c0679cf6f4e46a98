"""[22] differences: measured by the ways of all plans."""

import itertools
import random
import unittest

import helper
from helper import check
from sparehop.differences import differences, is_difference, with_differences

SMALL_FLEETS = (helper.SMALL, helper.ALONE, helper.STILL, helper.SOME, *helper.drawn_fleets(10, 4, 5, 55))


def every_couple(fleet, length):
    """All couples of a lease and an edge with its service, the edge's word not longer than length."""
    words = helper.reduced_words(fleet[0], length)
    return [(lease, (word, lease[0])) for lease in helper.plain_leases(fleet)
            for word in words if word[-1:] != (lease[0],)]


def lots_of(fleet, plan):
    """The dict from the differences of a plan to each plan, to this plan."""
    return {helper.plain_differences(fleet, plan, other): other for other in helper.plain_plans(fleet)}


class Differences(unittest.TestCase):

    def check_pair(self, fleet, one, other):
        lot = helper.plain_differences(fleet, one, other)
        check(self, lot, differences, fleet, one, other)
        check(self, other, with_differences, fleet, one, lot)
        check(self, one, with_differences, fleet, other, lot)

    def test_pairs_of_plans(self):
        for seed, fleet in enumerate(SMALL_FLEETS):
            for one, other in helper.pairs_of_plans(fleet, 150, seed):
                self.check_pair(fleet, one, other)

    def test_large_fleets(self):
        chosen = random.Random(56)
        for fleet in (helper.LARGE, *helper.drawn_fleets(4, 8, 60, 57)):
            every = tuple(range(len(fleet[2])))
            for other in ((), every, helper.drawn_part(chosen, every)):
                self.check_pair(fleet, helper.drawn_part(chosen, every), other)

    def test_equal_plans_and_no_restarts(self):
        for fleet in (*SMALL_FLEETS, helper.LARGE):
            for plan in ((), tuple(range(len(fleet[2])))):
                check(self, (), differences, fleet, plan, plan)
                check(self, plan, with_differences, fleet, plan, ())

    def test_one_service(self):
        fleet = (("a",), (0,), ("a", "a"))
        edge = ((), "a")
        check(self, ((("a", 1), edge),), differences, fleet, (), (0, 1))
        check(self, ((("a", 1), edge), (("a", 2), edge)), differences, fleet, (), (0,))
        check(self, (1,), with_differences, fleet, (), ((("a", 2), edge),))

    def test_the_same_lease_with_several_edges(self):
        lot = ((("a", 1), ((), "a")), (("a", 3), ((), "a")), (("a", 3), (("a", "b"), "a")), (("b", 2), (("a",), "b")))
        check(self, lot, differences, helper.SMALL, (), (0, 1, 2))
        check(self, (0, 1, 2), with_differences, helper.SMALL, (), lot)
        check(self, (0, 1), with_differences, helper.SMALL, (), lot[:2] + lot[3:])
        check(self, None, with_differences, helper.SMALL, (), lot[:1] + lot[2:])

    def test_each_couple_is_told_to_be_one_or_not(self):
        for fleet in SMALL_FLEETS:
            couples = every_couple(fleet, 3 if len(fleet[0]) < 4 else 2)
            for one, other in helper.pairs_of_plans(fleet, 20, 58):
                lot = helper.plain_differences(fleet, one, other)
                told = [couple for couple in couples if is_difference(fleet, one, other, couple)]
                self.assertEqual(told, [couple for couple in couples if couple in lot])
                for couple in lot:
                    check(self, True, is_difference, fleet, one, other, couple)

    def test_differences_of_other_plans_and_of_first_leases(self):
        couple = (("b", 2), (("a",), "b"))
        check(self, True, is_difference, helper.SMALL, (), (0, 1), couple)
        check(self, False, is_difference, helper.SMALL, (), (0,), couple)
        check(self, False, is_difference, helper.SMALL, (0, 1), (0, 1), couple)
        check(self, False, is_difference, helper.SMALL, (), (0, 1), (("b", 0), (("a",), "b")))
        check(self, False, is_difference, helper.SMALL, (), (0, 1), (("a", 3), (("a",), "b")))
        check(self, False, is_difference, helper.SMALL, (), (0, 1), (("a", 0), ((), "a")))
        check(self, False, is_difference, helper.SMALL, (), (0, 1), (("b", 2), ((), "b")))

    def test_values_that_are_no_differences(self):
        chosen = random.Random(59)
        for fleet, one, other in ((helper.SMALL, (), (0, 1)), (helper.SOME, (0, 1), (1, 2)), (helper.ALONE, (), ())):
            lot = helper.plain_differences(fleet, one, other)
            right = {repr(couple) for couple in lot}
            things = [lot, *helper.every_kind(), (("a", 1), ((), "a"))]
            for couple in lot:
                things += helper.otherwise(couple)
                things += helper.twice_otherwise(couple, 60, chosen.random())
            for thing in things:
                check(self, repr(thing) in right, is_difference, fleet, one, other, thing)

    def test_far_apart(self):
        for fleet, one, other in helper.FAR:
            lot = helper.quick(self, differences, fleet, one, other)
            self.assertEqual(lot, helper.plain_differences(fleet, one, other))
            self.assertEqual(helper.quick(self, with_differences, fleet, one, lot), other)
            self.assertEqual(helper.quick(self, with_differences, fleet, other, lot), one)
            for part in (lot[1:], lot[:-1], lot[1::2]):
                told = helper.quick(self, with_differences, fleet, one, part)
                if told is not None:
                    self.assertEqual(helper.plain_differences(fleet, one, told), part)
            self.assertIs(helper.quick(self, is_difference, fleet, one, other, lot[len(lot) // 2]), True)


class WithDifferences(unittest.TestCase):

    def test_all_lots_of_few(self):
        fleets = (helper.SMALL, (("a", "b"), (0, 1), ("b", "b", "a")), (("a",), (0,), ("a", "a")), helper.ALONE)
        for fleet in fleets:
            couples = sorted(every_couple(fleet, 2))
            for plan in helper.plain_plans(fleet):
                right = lots_of(fleet, plan)
                self.assertEqual(len(right), 2 ** len(fleet[2]))
                for many in range(4):
                    for lot in itertools.combinations(couples, many):
                        self.assertEqual(with_differences(fleet, plan, lot), right.get(lot))

    def test_lots_with_some_parts_otherwise(self):
        chosen = random.Random(60)
        found = {True: 0, False: 0}
        for fleet in SMALL_FLEETS:
            couples = every_couple(fleet, 2)
            for plan in helper.plain_plans(fleet)[::3]:
                right = lots_of(fleet, plan)
                self.assertEqual(len(right), 2 ** len(fleet[2]))
                for lot in right:
                    changed = set(lot) ^ set(chosen.sample(couples, min(len(couples), chosen.randint(0, 2))))
                    part = helper.drawn_part(chosen, lot)
                    for told in (tuple(sorted(changed)), part, lot[1:], lot[:-1]):
                        found[told in right] += 1
                        check(self, right.get(told), with_differences, fleet, plan, told)
        self.assertGreater(min(found.values()), 100)

    def test_lots_of_other_plans(self):
        for fleet in SMALL_FLEETS[:8]:
            plans = helper.plain_plans(fleet)
            for plan, base in itertools.product(plans[::3], plans[::4]):
                right = lots_of(fleet, plan)
                for lot in lots_of(fleet, base):
                    self.assertEqual(with_differences(fleet, plan, lot), right.get(lot))

    def test_lots_with_first_leases_and_far_edges(self):
        check(self, None, with_differences, helper.SMALL, (), ((("a", 0), ((), "a")),))
        check(self, None, with_differences, helper.ALONE, (), ((("a", 0), ((), "a")),))
        check(self, None, with_differences, helper.STILL, (), ((("web", 0), ((), "web")),))
        word = ("a", "b") * 500
        check(self, None, with_differences, helper.SMALL, (), ((("a", 1), (word, "a")),))


if __name__ == "__main__":
    unittest.main()
