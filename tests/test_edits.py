"""[19] edits and scripts: measured by the machines of all plans."""

import itertools
import random
import unittest

import helper
from helper import called, check, check_raised
from sparehop.edits import can_be_edited, edited, edits_of, is_script, run, takes_back, traced
from sparehop.errors import NoEdit

SMALL_FLEETS = (helper.SMALL, helper.ALONE, helper.STILL, helper.SOME, *helper.drawn_fleets(12, 4, 5, 23))
LARGE_FLEETS = (helper.LARGE, *helper.drawn_fleets(5, 8, 60, 24))


def edits_by_machines(fleet, plan, pins):
    """The dict from the edits that can be done to the machine that is spare in all their stretches."""
    rows = helper.plain_courses(fleet, plan)
    told = {}
    for lease in helper.later_leases(fleet):
        spares = {rows[stretch][1] for stretch in helper.plain_stretches(fleet, lease)}
        if lease not in pins and len(spares) == 1:
            told[lease] = min(spares)
    return told


def drawn_script(chosen, fleet, plan, pins, many):
    """A script with so many edits, or with none if no edit can be done."""
    script = []
    for _ in range(many):
        choices = edits_of(fleet, plan, pins)
        if choices:
            script.append(chosen.choice(choices))
            plan = edited(fleet, plan, pins, script[-1])
    return tuple(script)


def plain_trace(fleet, plan, pins, script):
    """The plans of a script, and the index of the first edit that can't be done, None if all can."""
    plans = [plan]
    for index, lease in enumerate(script):
        other = helper.plain_edited(fleet, plans[-1], pins, lease)
        if other is None:
            return plans, index
        plans.append(other)
    return plans, None


class Edits(unittest.TestCase):

    def test_edits_of_all_plans(self):
        chosen = random.Random(25)
        for fleet in SMALL_FLEETS:
            for plan in helper.plain_plans(fleet):
                for pins in ((), helper.drawn_part(chosen, helper.later_leases(fleet)), helper.later_leases(fleet)):
                    self.check_edits(fleet, plan, pins)

    def check_edits(self, fleet, plan, pins):
        expected = {x: helper.plain_edited(fleet, plan, pins, x) for x in helper.plain_leases(fleet)}
        check(self, tuple(x for x in expected if expected[x] is not None), edits_of, fleet, plan, pins)
        for lease, other in expected.items():
            check(self, other is not None, can_be_edited, fleet, plan, pins, lease)
            if other is None:
                check_raised(self, NoEdit(0), edited, fleet, plan, pins, lease)
            else:
                check(self, other, edited, fleet, plan, pins, lease)
                check(self, plan, edited, fleet, other, pins, lease)

    def test_an_edit_moves_this_lease_alone_to_the_spare_machine(self):
        chosen = random.Random(26)
        for fleet in (*SMALL_FLEETS, *LARGE_FLEETS):
            for _ in range(10):
                plan = helper.drawn_part(chosen, range(len(fleet[2])))
                pins = helper.drawn_part(chosen, helper.later_leases(fleet))
                table, spares = helper.plain_table(fleet, plan), edits_by_machines(fleet, plan, pins)
                check(self, tuple(spares), edits_of, fleet, plan, pins)
                for lease, spare in spares.items():
                    other = called(self, edited, fleet, plan, pins, lease)
                    self.assertEqual(helper.plain_table(fleet, other), {**table, lease: spare})
                    check(self, plan, edited, fleet, other, pins, lease)

    def test_no_hops_and_all_hops(self):
        for fleet in (*SMALL_FLEETS, *LARGE_FLEETS):
            every = tuple(range(len(fleet[2])))
            check(self, helper.later_leases(fleet), edits_of, fleet, (), ())
            check(self, tuple(edits_by_machines(fleet, every, ())), edits_of, fleet, every, ())

    def test_one_service(self):
        fleet = (("a",), (0,), ("a", "a"))
        check(self, (("a", 1), ("a", 2)), edits_of, fleet, (0, 1), ())
        check(self, (0,), edited, fleet, (1,), (), ("a", 1))
        check(self, (0, 1), edited, fleet, (), (), ("a", 1))
        check(self, (1,), edited, fleet, (), (), ("a", 2))

    def test_no_restarts_and_all_leases_pinned(self):
        for fleet in (helper.ALONE, helper.STILL):
            check(self, (), edits_of, fleet, (), ())
            check(self, ((),), traced, fleet, (), (), ())
            check_raised(self, NoEdit(0), edited, fleet, (), (), (fleet[0][0], 0))
        for fleet in (*SMALL_FLEETS, *LARGE_FLEETS):
            check(self, (), edits_of, fleet, (), helper.later_leases(fleet))

    def test_a_hop_in_the_last_stretch_before_the_end_bars(self):
        fleet = (("a", "b"), (0, 1), ("a", "b", "a", "b"))
        check(self, False, can_be_edited, fleet, (1,), (), ("a", 1))
        check(self, True, can_be_edited, fleet, (0, 2, 3), (), ("a", 1))
        check(self, False, can_be_edited, fleet, (3,), (), ("a", 3))
        check(self, True, can_be_edited, fleet, (3,), (), ("b", 4))

    def test_values_that_are_no_edits(self):
        for fleet in (helper.SMALL, helper.ALONE, helper.SOME):
            for plan in helper.plain_plans(fleet)[:6]:
                things = [part for lease in helper.plain_leases(fleet) for part in helper.otherwise(lease)]
                right = edits_by_machines(fleet, plan, ())
                for thing in (*things, *helper.every_kind()):
                    expected = any(helper.same(thing, lease) for lease in right)
                    check(self, expected, can_be_edited, fleet, plan, (), thing)
                    if not expected:
                        check_raised(self, NoEdit(0), edited, fleet, plan, (), thing)

    def test_a_truth_is_no_begin(self):
        check(self, True, can_be_edited, helper.SMALL, (), (), ("a", 1))
        check(self, False, can_be_edited, helper.SMALL, (), (), ("a", True))
        check_raised(self, NoEdit(0), edited, helper.SMALL, (), (), ("a", True))
        check(self, False, is_script, helper.SMALL, (), (), (("a", 1), ("a", True)))


class Scripts(unittest.TestCase):

    def check_script(self, fleet, plan, pins, script):
        """All functions tell of a tuple of leases what doing its edits one by one tells."""
        plans, stuck = plain_trace(fleet, plan, pins, script)
        check(self, stuck is None, is_script, fleet, plan, pins, script)
        check(self, tuple(reversed(script)), takes_back, script)
        if stuck is None:
            check(self, tuple(plans), traced, fleet, plan, pins, script)
            check(self, plans[-1], run, fleet, plan, pins, script)
            check(self, plan, run, fleet, plans[-1], pins, script[::-1])
        else:
            check_raised(self, NoEdit(stuck), traced, fleet, plan, pins, script)
            check_raised(self, NoEdit(stuck), run, fleet, plan, pins, script)

    def test_all_short_scripts(self):
        for fleet in (helper.SMALL, helper.ALONE, (("a", "b"), (2, 0), ("b", "a"))):
            for many in range(4):
                for script in itertools.product(helper.plain_leases(fleet), repeat=many):
                    self.check_script(fleet, (), (), script)
        for script in itertools.product(helper.plain_leases(helper.SMALL), repeat=2):
            self.check_script(helper.SMALL, (0, 2), (("a", 3),), script)

    def test_scripts_with_one_edit_otherwise(self):
        chosen = random.Random(27)
        for fleet in SMALL_FLEETS:
            for _ in range(6):
                plan = helper.drawn_part(chosen, range(len(fleet[2])))
                pins = helper.drawn_part(chosen, helper.later_leases(fleet))
                script = drawn_script(chosen, fleet, plan, pins, 6)
                self.check_script(fleet, plan, pins, script)
                at = chosen.randint(0, len(script))
                for lease in helper.plain_leases(fleet):
                    self.check_script(fleet, plan, pins, script[:at] + (lease,) + script[at:])
                    self.check_script(fleet, plan, pins, script[:at] + (lease,) + script[at + 1:])
                self.check_script(fleet, plan, pins, script[:at] + script[max(0, at - 1):])
                self.check_script(fleet, plan, pins, script[:at] + script[at:][1::-1] + script[at + 2:])

    def test_scripts_of_two_thousand_edits(self):
        chosen = random.Random(28)
        for fleet in LARGE_FLEETS[:2]:
            pins = helper.later_leases(fleet)[::5]
            plan = helper.drawn_part(chosen, range(len(fleet[2])))
            script = drawn_script(chosen, fleet, plan, pins, 2000)
            plans = called(self, traced, fleet, plan, pins, script)
            self.assertEqual((len(plans), plans[0]), (2001, plan))
            for lease, one, other in list(zip(script, plans, plans[1:]))[::37]:
                spare = edits_by_machines(fleet, one, pins)[lease]
                self.assertEqual(helper.plain_table(fleet, other), {**helper.plain_table(fleet, one), lease: spare})
            check(self, plans[-1], run, fleet, plan, pins, script)
            check(self, plan, run, fleet, plans[-1], pins, takes_back(script))
            check(self, True, is_script, fleet, plan, pins, script)
            for at in (0, 1234, 1999):
                for lease in (pins[0], (fleet[0][0], 0)):
                    wrong = (*script[:at], lease, *script[at + 1:])
                    check_raised(self, NoEdit(at), run, fleet, plan, pins, wrong)
                    check_raised(self, NoEdit(at), traced, fleet, plan, pins, wrong)
                    check(self, False, is_script, fleet, plan, pins, wrong)

    def test_empty_scripts(self):
        for fleet in (*SMALL_FLEETS, *LARGE_FLEETS):
            plan = tuple(range(len(fleet[2])))
            check(self, plan, run, fleet, plan, helper.later_leases(fleet), ())
            check(self, (plan,), traced, fleet, plan, helper.later_leases(fleet), ())
            check(self, True, is_script, fleet, plan, helper.later_leases(fleet), ())
        check(self, (), takes_back, ())

    def test_values_that_are_no_scripts(self):
        for plan in helper.plain_plans(helper.SMALL):
            for script in ((), (("a", 3), ("b", 2), ("a", 3)), (("a", 1), ("a", 1))):
                for thing in (*helper.otherwise(script), *helper.every_kind()):
                    leases = helper.plain_leases(helper.SMALL)
                    expected = type(thing) is tuple and len(thing) < 9
                    expected = expected and all(any(helper.same(part, lease) for lease in leases) for part in thing)
                    expected = expected and plain_trace(helper.SMALL, plan, (), thing)[1] is None
                    check(self, expected, is_script, helper.SMALL, plan, (), thing)


if __name__ == "__main__":
    unittest.main()
