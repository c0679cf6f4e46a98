"""[15] where the services run."""

import unittest

import helper
from helper import check, check_raised
from sparehop.errors import NoLease
from sparehop.plans import machine_in, machine_of, machines_in, spare_in, spares_of

SMALL_FLEETS = (helper.SMALL, helper.ALONE, helper.STILL, helper.SOME, *helper.drawn_fleets(12, 4, 5, 10))
LARGE_FLEETS = (helper.LARGE, *helper.drawn_fleets(8, 8, 60, 11))


def plans_to_look_at():
    """Couples of a fleet and a plan: all plans of small fleets, some of large ones."""
    for fleet in SMALL_FLEETS:
        for plan in helper.plain_plans(fleet):
            yield fleet, plan
    for fleet in LARGE_FLEETS:
        every = tuple(range(len(fleet[2])))
        for plan in ((), every, every[::2], every[1::3]):
            yield fleet, plan


class Plans(unittest.TestCase):

    def test_machines(self):
        for fleet, plan in plans_to_look_at():
            rows = helper.plain_courses(fleet, plan)
            check(self, tuple(spare for _, spare in rows), spares_of, fleet, plan)
            for stretch, (machines, spare) in enumerate(rows):
                check(self, tuple(machines[s] for s in fleet[0]), machines_in, fleet, plan, stretch)
                check(self, spare, spare_in, fleet, plan, stretch)
                for service in fleet[0]:
                    check(self, machines[service], machine_in, fleet, plan, service, stretch)

    def test_all_services_run_on_different_machines(self):
        for fleet, plan in plans_to_look_at():
            for stretch in range(len(fleet[2]) + 1):
                taken = [*machines_in(fleet, plan, stretch), spare_in(fleet, plan, stretch)]
                self.assertEqual(sorted(taken), list(range(len(fleet[0]) + 1)))

    def test_a_lease_has_one_machine(self):
        for fleet, plan in plans_to_look_at():
            rows = helper.plain_courses(fleet, plan)
            for lease in helper.plain_leases(fleet):
                (machine,) = {rows[stretch][0][lease[0]] for stretch in helper.plain_stretches(fleet, lease)}
                check(self, machine, machine_of, fleet, plan, lease)

    def test_different_plans_have_different_machines_for_some_lease(self):
        for fleet in SMALL_FLEETS:
            plans = helper.plain_plans(fleet)
            leases = helper.plain_leases(fleet)
            rows = {tuple(machine_of(fleet, plan, lease) for lease in leases) for plan in plans}
            self.assertEqual(len(rows), len(plans))

    def test_one_service_and_no_restarts(self):
        check(self, (1,), machines_in, helper.ALONE, (), 0)
        check(self, (0,), spares_of, helper.ALONE, ())
        check(self, 1, machine_of, helper.ALONE, (), ("a", 0))
        check(self, (1,), spares_of, helper.STILL, ())

    def test_a_hop_happens_behind_its_restart(self):
        fleet = (("a",), (0,), ("a", "a"))
        check(self, (1, 1, 0), spares_of, fleet, (1,))
        check(self, (1, 0, 1), spares_of, fleet, (0, 1))
        check(self, (1, 0, 0), spares_of, fleet, (0,))

    def test_what_is_no_lease(self):
        for fleet, thing in helper.no_leases():
            error = check_raised(self, NoLease(thing), machine_of, fleet, (), thing)
            self.assertIs(error.lease, thing)


if __name__ == "__main__":
    unittest.main()
