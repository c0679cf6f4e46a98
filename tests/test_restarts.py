"""[36] one restart more, or less: measured by the machines in all stretches, and by all ways of small fleets."""

import random
import unittest

import helper
from helper import check
from sparehop.apart import apart, distance
from sparehop.fleets import lease_in
from sparehop.leading import leads
from sparehop.restarts import (
    lease_with, lease_without, pins_with, pins_without, plan_with, plan_without, with_restart, without_restart,
)

SMALL_FLEETS = (helper.SMALL, helper.ALONE, helper.STILL, helper.SOME, *helper.drawn_fleets(10, 4, 5, 170))


def longer_fleets(fleets):
    """Fleets, each number that one restart more can have, and each service that can restart there."""
    for fleet in fleets:
        for number in range(len(fleet[2]) + 1):
            for service in fleet[0]:
                yield fleet, number, service


def stretched(stretches, number):
    """The stretches of the longer fleet that are the same time."""
    told = set()
    for k in stretches:
        told |= {k, k + 1} if k == number else {k + (k > number)}
    return told


class OneMore(unittest.TestCase):

    def test_fleets_and_plans(self):
        for fleet, number, service in longer_fleets(SMALL_FLEETS):
            restarts = list(fleet[2])
            restarts.insert(number, service)
            longer = (fleet[0], fleet[1], tuple(restarts))
            check(self, longer, with_restart, fleet, number, service)
            check(self, fleet, without_restart, longer, number)
            for plan in helper.plain_plans(fleet)[::3]:
                rows = helper.plain_courses(fleet, plan)
                expected = [other for other in helper.plain_plans(longer) if number not in other
                            and helper.plain_courses(longer, other) == rows[:number + 1] + rows[number:]]
                self.assertEqual(len(expected), 1)
                check(self, expected[0], plan_with, plan, number)
                check(self, plan, plan_without, expected[0], number)

    def test_leases(self):
        divided = 0
        for fleet, number, service in longer_fleets(SMALL_FLEETS):
            longer = with_restart(fleet, number, service)
            parts = {lease: set(helper.plain_stretches(longer, lease)) for lease in helper.plain_leases(longer)}
            met = []
            for lease in helper.plain_leases(fleet):
                time = stretched(helper.plain_stretches(fleet, lease), number)
                expected = tuple(part for part in sorted(parts) if part[0] == lease[0] and parts[part] & time)
                self.assertEqual(set().union(*(parts[part] for part in expected)), time)
                self.assertEqual(len(expected), 2 if lease == lease_in(fleet, service, number) else 1)
                divided += len(expected) == 2
                check(self, expected, lease_with, fleet, number, service, lease)
                for part in expected:
                    check(self, lease, lease_without, longer, number, part)
                met += expected
            self.assertEqual(sorted(met), helper.plain_leases(longer))
        self.assertGreater(divided, 50)

    def test_pins(self):
        chosen = random.Random(171)
        for fleet, number, service in longer_fleets(SMALL_FLEETS):
            longer = with_restart(fleet, number, service)
            for pins in ((), helper.drawn_pins(chosen, fleet), helper.later_leases(fleet)):
                expected = sorted(part for lease in pins for part in lease_with(fleet, number, service, lease))
                check(self, tuple(expected), pins_with, fleet, pins, number, service)
                check(self, pins, pins_without, longer, tuple(expected), number)
            for pins in (helper.drawn_pins(chosen, longer), helper.later_leases(longer)):
                whole = {lease_without(longer, number, lease) for lease in pins}
                expected = tuple(sorted(lease for lease in whole if lease[1] > 0))
                check(self, expected, pins_without, longer, pins, number)

    def test_one_restart_more_changes_no_way(self):
        chosen = random.Random(172)
        found = {True: 0, False: 0}
        for fleet, number, service in longer_fleets(SMALL_FLEETS):
            longer = with_restart(fleet, number, service)
            plans = helper.plain_plans(fleet)
            for _ in range(6):
                pins = helper.drawn_pins(chosen, fleet)
                one, other = chosen.choice(plans), chosen.choice(plans)
                more, new_one, new_other = pins_with(fleet, pins, number, service), plan_with(one, number), plan_with(other, number)
                answer = leads(fleet, pins, one, other)
                found[answer] += 1
                self.assertIs(new_other in helper.plain_needed(longer, more, new_one), answer)
                whole = lease_in(fleet, service, number)
                self.assertEqual(distance(longer, new_one, new_other),
                                 distance(fleet, one, other) + apart(fleet, one, other, whole))
                for lease in helper.plain_leases(fleet):
                    for part in lease_with(fleet, number, service, lease):
                        self.assertEqual(apart(longer, new_one, new_other, part), apart(fleet, one, other, lease))
        self.assertGreater(min(found.values()), 50)

    def test_the_first_place_and_the_last(self):
        check(self, (("a", "b"), (0, 1), ("b", "a", "b", "a")), with_restart, helper.SMALL, 0, "b")
        check(self, (("a", "b"), (0, 1), ("a", "b", "a", "b")), with_restart, helper.SMALL, 3, "b")
        check(self, (("a",), (1,), ("a",)), with_restart, helper.ALONE, 0, "a")
        check(self, (1, 3), plan_with, (0, 2), 0)
        check(self, (0, 2), plan_with, (0, 2), 3)
        check(self, (), plan_with, (), 0)
        check(self, (("b", 0), ("b", 1)), lease_with, helper.SMALL, 0, "b", ("b", 0))
        check(self, (("b", 3),), lease_with, helper.SMALL, 0, "b", ("b", 2))
        check(self, (("b", 2), ("b", 4)), lease_with, helper.SMALL, 3, "b", ("b", 2))
        check(self, (("a", 0),), lease_with, helper.SMALL, 0, "b", ("a", 0))
        check(self, (("a", 2), ("a", 4)), pins_with, helper.SMALL, (("a", 1), ("a", 3)), 0, "b")
        check(self, (("a", 1), ("a", 3), ("a", 4)), pins_with, helper.SMALL, (("a", 1), ("a", 3)), 3, "a")

    def test_a_first_lease_that_is_divided_is_no_pin(self):
        check(self, (), pins_with, helper.SMALL, (), 0, "a")
        check(self, (("b", 3),), pins_with, helper.SMALL, (("b", 2),), 1, "b")


class OneLess(unittest.TestCase):

    def test_two_leases_that_become_one(self):
        check(self, ("a", 0), lease_without, helper.SMALL, 0, ("a", 0))
        check(self, ("a", 0), lease_without, helper.SMALL, 0, ("a", 1))
        check(self, ("a", 2), lease_without, helper.SMALL, 0, ("a", 3))
        check(self, ("b", 0), lease_without, helper.SMALL, 1, ("b", 2))
        check(self, ("a", 1), lease_without, helper.SMALL, 2, ("a", 1))
        check(self, ("a", 1), lease_without, helper.SMALL, 2, ("a", 3))
        check(self, ("b", 2), lease_without, helper.SMALL, 2, ("b", 2))
        check(self, (("a", 1),), pins_without, helper.SMALL, (("a", 1), ("a", 3)), 2)
        check(self, (("a", 1),), pins_without, helper.SMALL, (("a", 1),), 2)
        check(self, (("a", 1),), pins_without, helper.SMALL, (("a", 3),), 2)
        check(self, (("a", 2), ("b", 1)), pins_without, helper.SMALL, (("a", 1), ("a", 3), ("b", 2)), 0)
        check(self, (), pins_without, helper.SMALL, (("a", 1),), 0)
        check(self, (), pins_without, helper.SMALL, (), 0)

    def test_without_each_restart(self):
        for fleet in SMALL_FLEETS:
            for number in range(len(fleet[2])):
                shorter = (fleet[0], fleet[1], fleet[2][:number] + fleet[2][number + 1:])
                check(self, shorter, without_restart, fleet, number)
                for plan in [told for told in helper.plain_plans(fleet) if number not in told][::3]:
                    rows = helper.plain_courses(fleet, plan)
                    told = plan_without(plan, number)
                    self.assertEqual(helper.plain_courses(shorter, told), rows[:number] + rows[number + 1:])
                    check(self, plan, plan_with, told, number)
                for lease in helper.plain_leases(fleet):
                    told = lease_without(fleet, number, lease)
                    self.assertIn(lease, lease_with(shorter, number, fleet[2][number], told))

    def test_large_fleets(self):
        chosen = random.Random(173)
        for _ in range(20):
            number, service = chosen.randint(0, 60), chosen.choice(helper.LARGE[0])
            longer = helper.quick(self, with_restart, helper.LARGE, number, service)
            pins, plan = helper.drawn_pins(chosen, helper.LARGE), helper.drawn_part(chosen, range(60))
            more = helper.quick(self, pins_with, helper.LARGE, pins, number, service)
            self.assertEqual(helper.quick(self, pins_without, longer, more, number), pins)
            self.assertEqual(plan_without(plan_with(plan, number), number), plan)
            self.assertEqual(without_restart(longer, number), helper.LARGE)


if __name__ == "__main__":
    unittest.main()
