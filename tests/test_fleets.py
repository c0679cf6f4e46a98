"""[13] fleets, leases and stretches."""

import unittest

import helper
from helper import called, check, check_raised
from sparehop.errors import NoFleet, NoLease
from sparehop.fleets import (
    checked_fleet, end_of, fleet_fault, lease_in, leases_in, leases_of, restarts_of, share, size, stretches_of,
)
from sparehop.forms import is_fleet

FLEETS = (*helper.FLEETS, *helper.drawn_fleets(30, 8, 60, 4))


def is_machine(thing, count):
    return type(thing) is int and 0 <= thing <= count


def is_name(thing):
    return type(thing) is str and 1 <= len(thing) <= 12 and all("a" <= c <= "z" for c in thing)


def plain_faults(thing):
    """All faults of a value that is a tuple of three tuples, in the order in which they are told."""
    services, places, restarts = thing
    faults = [] if services else [("services",)]
    for i, name in enumerate(services):
        before = services[i - 1] if i else ""
        if not is_name(name) or (is_name(before) and not before < name):
            faults.append(("service", i))
    if len(services) != len(places):
        faults.append(("places",))
    for i, place in enumerate(places):
        if not is_machine(place, len(services)) or any(helper.same(place, other) for other in places[:i]):
            faults.append(("place", i))
    for j, service in enumerate(restarts):
        if not any(helper.same(service, other) for other in services):
            faults.append(("restart", j))
    return faults


def plain_fault(thing):
    if type(thing) is not tuple or [type(part) for part in thing] != [tuple] * 3:
        return ("form",)
    return next(iter(plain_faults(thing)), None)


class Fleets(unittest.TestCase):

    def test_size_and_restarts(self):
        for fleet in FLEETS:
            check(self, len(fleet[2]), size, fleet)
            for service in fleet[0]:
                numbers = tuple(j for j, other in enumerate(fleet[2]) if other == service)
                check(self, numbers, restarts_of, fleet, service)

    def test_leases(self):
        for fleet in FLEETS:
            leases = helper.plain_leases(fleet)
            check(self, tuple(leases), leases_of, fleet)
            for lease in leases:
                check(self, helper.plain_end(fleet, lease), end_of, fleet, lease)
                check(self, tuple(helper.plain_stretches(fleet, lease)), stretches_of, fleet, lease)

    def test_each_service_has_exactly_one_lease_in_each_stretch(self):
        for fleet in FLEETS:
            for stretch in range(len(fleet[2]) + 1):
                covering = [x for x in helper.plain_leases(fleet) if stretch in helper.plain_stretches(fleet, x)]
                self.assertEqual([service for service, _ in covering], list(fleet[0]))
                check(self, tuple(covering), leases_in, fleet, stretch)
                for lease in covering:
                    check(self, lease, lease_in, fleet, lease[0], stretch)

    def test_a_service_that_never_restarts_has_one_lease(self):
        check(self, (("ab", 0), ("b", 0), ("web", 0)), leases_of, helper.STILL)
        check(self, 4, end_of, helper.SOME, ("b", 0))
        check(self, (0, 1, 2, 3, 4), stretches_of, helper.SOME, ("b", 0))
        check(self, (), restarts_of, helper.SOME, "b")

    def test_the_lease_behind_the_last_restart(self):
        check(self, 4, end_of, helper.SOME, ("c", 4))
        check(self, (4,), stretches_of, helper.SOME, ("c", 4))
        check(self, 3, end_of, helper.SOME, ("c", 3))

    def test_one_service_and_no_restarts(self):
        check(self, 0, size, helper.ALONE)
        check(self, (("a", 0),), leases_of, helper.ALONE)
        check(self, (("a", 0),), leases_in, helper.ALONE, 0)
        check(self, (0,), stretches_of, helper.ALONE, ("a", 0))

    def test_shared_stretches(self):
        for fleet in FLEETS[:12]:
            leases = helper.plain_leases(fleet)
            for one in leases:
                for other in leases:
                    both = set(helper.plain_stretches(fleet, one)) & set(helper.plain_stretches(fleet, other))
                    check(self, tuple(sorted(both)), share, fleet, one, other)

    def test_what_is_no_lease(self):
        for fleet, thing in helper.no_leases():
            for function in (end_of, stretches_of):
                error = check_raised(self, NoLease(thing), function, fleet, thing)
                self.assertIs(error.lease, thing)


class Faults(unittest.TestCase):

    def check_fault(self, thing):
        fault = plain_fault(thing)
        check(self, fault, fleet_fault, thing)
        self.assertEqual(fault is None, is_fleet(thing))
        if fault is None:
            self.assertIs(called(self, checked_fleet, thing), thing)
        else:
            check_raised(self, NoFleet(fault), checked_fleet, thing)
        return fault

    def test_fleets_have_none(self):
        for fleet in FLEETS:
            self.assertIsNone(self.check_fault(fleet))

    def test_values_of_every_kind(self):
        for thing in helper.every_kind():
            fault = self.check_fault(thing)
            self.assertEqual(fault, ("services",) if helper.same(thing, ((), (), ())) else ("form",))

    def test_one_part_otherwise(self):
        for fleet in (helper.SMALL, helper.ALONE, helper.STILL, helper.SOME):
            for thing in helper.otherwise(fleet):
                self.check_fault(thing)

    def test_two_parts_otherwise(self):
        for fleet in (helper.SMALL, helper.STILL, helper.SOME):
            for thing in helper.twice_otherwise(fleet, 500, 5):
                self.check_fault(thing)

    def test_the_order_of_the_faults(self):
        rows = [
            (("form",), ((), [], ("c",))),
            (("services",), ((), (0,), ("c",))),
            (("service", 0), (("A", "a"), (0,), ("c",))),
            (("service", 1), (("a", "a"), (0,), ("c",))),
            (("service", 1), (("b", "a", "A"), (0,), ("c",))),
            (("places",), (("a", "b"), (0, 0, 0), ("c",))),
            (("places",), (("a",), (), ())),
            (("place", 0), (("a", "b"), (3, 3), ("c",))),
            (("place", 1), (("a", "b"), (2, 2), ("c",))),
            (("place", 1), (("a", "b"), (0, False), ("c",))),
            (("place", 0), (("a", "b"), (True, 1), ("c",))),
            (("place", 1), (("a", "b"), (1, True), ("c",))),
            (("place", 1), (("a", "b"), (1, -1), ("c",))),
            (("restart", 1), (("a", "b"), (0, 1), ("a", "c", "d"))),
            (("restart", 0), (("a", "b"), (0, 1), (None, "a"))),
            (None, (("a", "b"), (2, 0), ())),
        ]
        for fault, thing in rows:
            self.assertEqual(self.check_fault(thing), fault)

    def test_an_item_that_cannot_be_compared_with_the_one_before(self):
        for thing in helper.every_kind():
            if not is_name(thing):
                self.assertEqual(self.check_fault((("a", thing), (0, 1), ())), ("service", 1))
                self.assertEqual(self.check_fault(((thing, "a"), (0, 1), ())), ("service", 0))
            if thing not in (0, 1):
                self.assertEqual(self.check_fault((("a",), (thing,), ())), ("place", 0))
            if thing != "a":
                self.assertEqual(self.check_fault((("a",), (0,), ("a", thing))), ("restart", 1))


if __name__ == "__main__":
    unittest.main()
