"""[35] and [7] time that passes: measured by going through all shortest scripts of drawn small fleets."""

import random
import unittest

import helper
from helper import called, check, check_raised
from sparehop.apart import distance
from sparehop.days import (
    begun_pins, due_stretches, is_timetable, last_stretch, leads_at, least_most, timetable,
)
from sparehop.errors import NoTime, NoWay
from sparehop.leading import barring, script_to

SMALL_FLEETS = (helper.SMALL, helper.ALONE, helper.STILL, helper.SOME, *helper.drawn_fleets(8, 4, 5, 160),
                helper.letters("abcab"), helper.letters("aabba"))


def plain_begun(fleet, pins, now):
    return tuple(lease for lease in helper.later_leases(fleet) if lease in pins or lease[1] <= now)


def plain_due(fleet, one, other):
    before = helper.plain_preceding(fleet, one, other)
    return {item: min(lease[1] - 1 for lease, _ in [item, *(x for x in before if item in before[x])])
            for item in before}


def earliest(script, now, most):
    """The stretches in which the edits of a script are done as early as possible, in this order."""
    return [now + at // most for at in range(len(script))] if most else []


def is_in_time(script, now, most):
    """Whether the edits of a script can be done in this order, each one ahead of its begin."""
    return bool(most or not script) and all(k < lease[1] for k, lease in zip(earliest(script, now, most), script))


def plain_is_timetable(fleet, pins, one, other, now, most, thing):
    """Whether a value is a timetable, by the definition."""
    leases = {repr(lease): lease for lease in helper.plain_leases(fleet)}
    if type(thing) is not tuple or len(thing) != len(fleet[2]) + 1 - now:
        return False
    for at, edits in enumerate(thing):
        if type(edits) is not tuple or len(edits) > most or not all(repr(part) in leases for part in edits):
            return False
        if any(lease[1] <= now + at for lease in edits):
            return False
    script = tuple(lease for edits in thing for lease in edits)
    behind = helper.plain_behind(fleet, one, plain_begun(fleet, pins, now), script)
    return behind == other and len(script) == sum(helper.plain_aparts(fleet, one, other).values())


def drawn_cases(many, seed, most=6):
    """Fleets, pins and two plans that are not too far apart."""
    chosen = random.Random(seed)
    for at, fleet in enumerate(SMALL_FLEETS):
        for one, other in helper.pairs_of_plans(fleet, many, seed + at):
            if distance(fleet, one, other) <= most:
                pins = helper.drawn_pins(chosen, fleet) if chosen.random() < 0.3 else ()
                yield fleet, pins, one, other


class Time(unittest.TestCase):

    def test_pins_that_hold(self):
        chosen = random.Random(161)
        for fleet in (*SMALL_FLEETS, helper.LARGE):
            m = len(fleet[2])
            for now in range(m + 1):
                for pins in ((), helper.drawn_pins(chosen, fleet), helper.later_leases(fleet)):
                    check(self, plain_begun(fleet, pins, now), begun_pins, fleet, pins, now)
            check(self, (), begun_pins, fleet, (), 0)
            check(self, helper.later_leases(fleet), begun_pins, fleet, (), m)

    def test_the_last_stretch_in_which_a_script_leads(self):
        found = set()
        for fleet, pins, one, other in drawn_cases(30, 162, 99):
            m = len(fleet[2])
            answers = []
            for now in range(m + 1):
                answers.append(other in helper.plain_needed(fleet, plain_begun(fleet, pins, now), one))
                check(self, answers[-1], leads_at, fleet, pins, one, other, now)
            self.assertEqual(answers, sorted(answers, reverse=True))
            found.add(sum(answers))
            if any(answers):
                check(self, sum(answers) - 1, last_stretch, fleet, pins, one, other)
            else:
                lease = barring(fleet, pins, one, other)[0]
                check_raised(self, NoWay(lease), last_stretch, fleet, pins, one, other)
        self.assertGreater(len(found), 4)

    def test_equal_plans_and_no_restarts(self):
        for fleet in (*SMALL_FLEETS, helper.LARGE):
            m, later = len(fleet[2]), helper.later_leases(fleet)
            for plan in ((), tuple(range(m))):
                check(self, m, last_stretch, fleet, later, plan, plan)
                check(self, {}, due_stretches, fleet, plan, plan)
                for now in (0, m // 2, m):
                    check(self, True, leads_at, fleet, later, plan, plan, now)
                    for most in (0, 1, 10 ** 40 - 1):
                        empty = ((),) * (m + 1 - now)
                        check(self, empty, timetable, fleet, later, plan, plan, now, most)
                        check(self, True, is_timetable, fleet, later, plan, plan, now, most, empty)
                        check(self, False, is_timetable, fleet, later, plan, plan, now, most, empty[1:])
                        check(self, False, is_timetable, fleet, later, plan, plan, now, most, (*empty, ()))
                    check(self, 0, least_most, fleet, later, plan, plan, now)

    def test_stretches_in_which_differences_are_due(self):
        for fleet, _, one, other in drawn_cases(40, 163, 99):
            expected = plain_due(fleet, one, other)
            check(self, expected, due_stretches, fleet, one, other)
            self.assertEqual(list(due_stretches(fleet, one, other)), sorted(expected))
            helper.check_changeable(self, due_stretches, fleet, one, other)


class Timetables(unittest.TestCase):

    def test_there_is_one_exactly_if_some_order_keeps_each_edit_ahead_of_its_begin(self):
        chosen = random.Random(164)
        found = {"one": 0, NoWay: 0, NoTime: 0}
        for fleet, pins, one, other in drawn_cases(40, 165):
            m = len(fleet[2])
            now, most = chosen.choice((0, 0, 1, m, chosen.randint(0, m))) if m else 0, chosen.choice((0, 1, 1, 2, 3, 9))
            arguments = (fleet, pins, one, other, now, most)
            barred = [x for x in plain_begun(fleet, pins, now) if helper.plain_aparts(fleet, one, other)[x]]
            if barred:
                found[NoWay] += 1
                check_raised(self, NoWay(barred[0]), timetable, *arguments)
                check_raised(self, NoWay(barred[0]), least_most, *arguments[:5])
                continue
            scripts = helper.plain_scripts(fleet, (), one, other)
            if any(is_in_time(script, now, most) for script in scripts):
                found["one"] += 1
                self.check_timetable(arguments, scripts)
            else:
                found[NoTime] += 1
                due = plain_due(fleet, one, other).values()
                late = [t for t in range(now, m + 1) if sum(k <= t for k in due) > most * (t - now + 1)]
                check_raised(self, NoTime(late[0]), timetable, *arguments)
            enough = [k for k in range(len(scripts[0]) + 1) if any(is_in_time(told, now, k) for told in scripts)]
            check(self, enough[0], least_most, *arguments[:5])
        self.assertGreater(min(found.values()), 30)

    def check_timetable(self, arguments, scripts):
        fleet, _, _, _, now, most = arguments
        told = called(self, timetable, *arguments)
        script = tuple(lease for edits in told for lease in edits)
        self.assertIn(script, scripts)
        self.assertTrue(plain_is_timetable(*arguments, told))
        # As early as possible: each item has most edits, as long as so many are left.
        stretches = [now + at for at, edits in enumerate(told) for _ in edits]
        self.assertEqual(stretches, earliest(script, now, most))
        check(self, True, is_timetable, *arguments, told)
        for right in scripts[:5]:
            row = [[] for _ in told]
            for stretch, lease in zip(earliest(right, now, most), right):
                row[stretch - now].append(lease)
            thing = tuple(tuple(edits) for edits in row)
            check(self, plain_is_timetable(*arguments, thing), is_timetable, *arguments, thing)

    def test_timetables_that_are_none(self):
        a3, b2 = ("a", 3), ("b", 2)
        rows = [
            (0, 1, ((b2,), (a3,), (), ()), True), (0, 1, ((b2,), (), (a3,), ()), True), (0, 1, ((), (b2,), (a3,), ()), True),
            (0, 1, ((), (), (b2,), (a3,)), False), (0, 1, ((), (b2,), (), (a3,)), False), (0, 2, ((b2, a3), (), (), ()), True),
            (0, 1, ((b2, a3), (), (), ()), False), (0, 2, ((a3, b2), (), (), ()), False), (0, 2, ((b2,), (), (), ()), False),
            (0, 9, ((), (b2, a3), (), ()), True), (1, 2, ((b2, a3), (), ()), True), (1, 2, ((b2, a3), (), (), ()), False),
            (1, 1, ((b2,), (a3,), ()), True), (1, 1, ((), (b2,), (a3,)), False), (2, 2, ((b2, a3), ()), False),
            (3, 2, ((b2, a3),), False), (0, 4, ((b2, a3, a3, a3), (), (), ()), False), (0, 0, ((), (), (), ()), False),
            (0, 2, [(b2, a3), (), (), ()], False), (0, 2, ([b2, a3], (), (), ()), False), (0, 2, (b2, a3, (), ()), False),
            (0, 2, ((b2, ("a", 2)), (), (), ()), False), (0, 2, (), False),
        ]
        for now, most, thing, expected in rows:
            arguments = (helper.SMALL, (), (), (1, 2), now, most, thing)
            self.assertIs(plain_is_timetable(*arguments), expected, thing)
            check(self, expected, is_timetable, *arguments)
        check(self, False, is_timetable, helper.SMALL, (a3,), (), (1, 2), 0, 1, ((b2,), (a3,), (), ()))

    def test_values_that_are_no_timetables(self):
        chosen = random.Random(166)
        cases = [(helper.SMALL, (), (), (1, 2), 0, 1), (helper.SMALL, (), (), (1, 2), 1, 2), (helper.SMALL, (), (), (0, 1), 0, 2),
                 (helper.ALONE, (), (), (), 0, 1), (helper.SOME, (), (0, 1), (1, 2), 0, 3), (helper.SMALL, (), (), (), 3, 0)]
        for arguments in cases:
            told = timetable(*arguments)
            script = script_to(arguments[0], (), arguments[2], arguments[3])
            things = [*helper.every_kind(), script, (script,), told[::-1], *helper.otherwise(told)]
            things += helper.twice_otherwise(told, 150, chosen.random())
            for thing in things:
                check(self, plain_is_timetable(*arguments, thing), is_timetable, *arguments, thing)

    def test_none_at_all_in_a_stretch(self):
        check_raised(self, NoTime(1), timetable, helper.SMALL, (), (), (1, 2), 0, 0)
        check_raised(self, NoTime(2), timetable, helper.SMALL, (), (), (2,), 0, 0)
        check_raised(self, NoWay(("a", 3)), timetable, helper.SMALL, (("a", 3),), (), (1, 2), 0, 0)
        check_raised(self, NoWay(("a", 1)), timetable, helper.SMALL, (), (), (0, 1), 1, 0)
        check_raised(self, NoWay(("a", 1)), timetable, helper.SMALL, (), (), (0, 1), 3, 9)

    def test_far_apart(self):
        for fleet, one, other in helper.FAR:
            both = set(one) ^ set(other)
            needed = distance(fleet, one, other)
            for now in (0, min(both), 60):
                least = helper.quick(self, least_most, fleet, (), one, other, now)
                if now > min(both):
                    self.assertIsInstance(least, NoWay)
                    self.assertIsInstance(helper.quick(self, timetable, fleet, (), one, other, now, 9), NoWay)
                    continue
                told = helper.quick(self, timetable, fleet, (), one, other, now, least)
                self.assertIs(helper.quick(self, is_timetable, fleet, (), one, other, now, least, told), True)
                self.assertEqual(sum(map(len, told)), needed)
                if least:
                    fewer = helper.quick(self, timetable, fleet, (), one, other, now, least - 1)
                    self.assertIsInstance(fewer, NoTime)
                    self.assertIs(is_timetable(fleet, (), one, other, now, least - 1, told), False)
            due = helper.quick(self, due_stretches, fleet, one, other)
            self.assertEqual(len(due), needed)
            self.assertEqual(helper.quick(self, last_stretch, fleet, (), one, other), min(both))
            self.assertEqual(min(due.values()), min(both))


if __name__ == "__main__":
    unittest.main()
