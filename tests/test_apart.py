"""[21] how far plans are apart: measured by the edges of the ways in all stretches of a lease."""

import random
import unittest

import helper
from helper import called, check
from sparehop.apart import apart, aparts, distance

SMALL_FLEETS = (helper.SMALL, helper.ALONE, helper.STILL, helper.SOME, *helper.drawn_fleets(10, 4, 5, 50))
LARGE_FLEETS = (helper.LARGE, *helper.drawn_fleets(4, 8, 60, 51))


class Apart(unittest.TestCase):

    def check_pair(self, fleet, one, other):
        expected = helper.plain_aparts(fleet, one, other)
        for lease, many in expected.items():
            check(self, many, apart, fleet, one, other, lease)
        told = called(self, aparts, fleet, one, other)
        self.assertEqual(list(told), [lease for lease, many in expected.items() if many])
        check(self, {lease: many for lease, many in expected.items() if many}, aparts, fleet, one, other)
        check(self, sum(expected.values()), distance, fleet, one, other)

    def test_pairs_of_plans(self):
        for seed, fleet in enumerate(SMALL_FLEETS):
            for one, other in helper.pairs_of_plans(fleet, 100, seed):
                self.check_pair(fleet, one, other)

    def test_large_fleets(self):
        chosen = random.Random(52)
        for fleet in LARGE_FLEETS:
            every = tuple(range(len(fleet[2])))
            self.check_pair(fleet, (), every)
            self.check_pair(fleet, helper.drawn_part(chosen, every), helper.drawn_part(chosen, every))

    def test_equal_plans(self):
        for fleet in (*SMALL_FLEETS, *LARGE_FLEETS):
            for plan in ((), tuple(range(len(fleet[2])))):
                check(self, {}, aparts, fleet, plan, plan)
                check(self, 0, distance, fleet, plan, plan)

    def test_no_restarts_and_services_that_never_restart(self):
        check(self, 0, apart, helper.ALONE, (), (), ("a", 0))
        check(self, {}, aparts, helper.STILL, (), ())
        check(self, 0, apart, helper.SOME, (), (0, 1, 2, 3), ("b", 0))
        check(self, {("a", 2): 2, ("c", 1): 1, ("c", 3): 2, ("c", 4): 2}, aparts, helper.SOME, (0, 1), (1, 2))

    def test_one_service(self):
        fleet = (("a",), (0,), ("a", "a", "a"))
        check(self, {("a", 1): 1, ("a", 3): 1}, aparts, fleet, (), (0, 1, 2))
        check(self, 2, distance, fleet, (), (0, 1, 2))
        check(self, 1, distance, fleet, (0, 1), (0, 2))

    def test_equal_machines_at_different_vertices(self):
        # All hops lead back to the machines of no hops, but not to their vertex.
        fleet = (("a", "b"), (0, 1), ("a", "b") * 3)
        check(self, 3, apart, fleet, (), tuple(range(6)), ("a", 5))
        check(self, 3, apart, fleet, (), tuple(range(6)), ("b", 6))
        self.assertEqual(helper.plain_table(fleet, tuple(range(6)))[("b", 6)], 1)

    def test_a_distance_is_one_of_a_metric(self):
        for fleet in SMALL_FLEETS[4:8]:
            plans = helper.plain_plans(fleet)
            for one in plans[::3]:
                for other in plans[::2]:
                    self.assertEqual(distance(fleet, one, other), distance(fleet, other, one))
                    self.assertEqual(distance(fleet, one, other) == 0, one == other)
                    for third in plans[::5]:
                        beside = distance(fleet, one, third) + distance(fleet, third, other)
                        self.assertLessEqual(distance(fleet, one, other), beside)

    def test_each_edit_changes_one_lease_by_one(self):
        for fleet in SMALL_FLEETS:
            plans = helper.plain_plans(fleet)
            for one in plans:
                for lease, behind in helper.plain_graph(fleet)[one].items():
                    for other in plans[::3]:
                        before = {x: apart(fleet, one, other, x) for x in helper.plain_leases(fleet)}
                        after = {x: apart(fleet, behind, other, x) for x in helper.plain_leases(fleet)}
                        changed = {x: after[x] - before[x] for x in before if after[x] != before[x]}
                        self.assertIn(changed, ({lease: 1}, {lease: -1}))

    def test_far_apart(self):
        distances = []
        for fleet, one, other in helper.FAR:
            distances.append(helper.quick(self, distance, fleet, one, other))
            self.assertEqual(sum(helper.quick(self, aparts, fleet, one, other).values()), distances[-1])
            self.assertEqual(helper.plain_aparts(fleet, one, other)[(fleet[2][-1], 60)],
                             helper.quick(self, apart, fleet, one, other, (fleet[2][-1], 60)))
        self.assertEqual(max(distances), 1830)

    def test_what_is_returned_may_be_changed(self):
        helper.check_changeable(self, aparts, helper.SMALL, (), (0, 1))
        helper.check_changeable(self, aparts, helper.LARGE, (), tuple(range(60)))


if __name__ == "__main__":
    unittest.main()
