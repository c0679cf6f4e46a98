"""[26] and [7] plans between, and scripts numbered: measured by going through all plans and scripts by edits."""

import random
import unittest

import helper
from helper import called, check, check_raised
from sparehop.apart import distance
from sparehop.between import (
    closed_of, is_between, number_of_script, plan_of_closed, plans_between, script_at, scripts_many,
)
from sparehop.edits import run
from sparehop.errors import NoNumber, TooMany
from sparehop.leading import script_to

SMALL_FLEETS = (helper.SMALL, helper.ALONE, helper.STILL, helper.SOME, *helper.drawn_fleets(10, 4, 5, 80))

# A fleet and two plans with exactly 2,000 plans between them, and others with a few more.
EXACT = ((("a", "b"), (0, 1), tuple("babaaabaaabbbaa")), (1, 3, 6, 7, 8, 10, 12, 13), (1, 2, 4, 5, 9, 10, 14))
MORE = (
    (2001, (("a", "b", "c", "d"), (0, 1, 2, 3), tuple("cdcbaaadbdaadbadada")),
     (0, 2, 6, 7, 8, 14, 15, 16, 17, 18), (1, 2, 3, 5, 8, 13, 14, 16)),
    (2003, (("a", "b", "c", "d"), (0, 1, 2, 3), tuple("adacaabaadbdcccbdcbb")),
     (0, 1, 4, 6, 7, 10, 11, 14, 15), (0, 2, 3, 6, 9, 10, 11, 13, 15, 17, 18, 19)),
)


def plain_between(fleet, one, other):
    """All plans between two, by how many edits lead from plan to plan."""
    there, back = helper.plain_needed(fleet, (), one), helper.plain_needed(fleet, (), other)
    return sorted(plan for plan in there if there[plan] + back[plan] == there[other])


def count_closed_sets(fleet, one, other):
    """How many closed sets of differences there are, one difference more at a time."""
    before = helper.plain_preceding(fleet, one, other)
    found = {frozenset()}
    waiting = [frozenset()]
    for lot in waiting:
        for item in before:
            more = lot | {item}
            if item not in lot and before[item] <= lot and more not in found:
                found.add(more)
                waiting.append(more)
    return len(found)


class Between(unittest.TestCase):

    def test_pairs_of_plans(self):
        for seed, fleet in enumerate(SMALL_FLEETS):
            for one, other in helper.pairs_of_plans(fleet, 30, seed):
                between = plain_between(fleet, one, other)
                check(self, tuple(between), plans_between, fleet, one, other)
                for plan in helper.plain_plans(fleet):
                    self.assertIs(is_between(fleet, one, other, plan), plan in between)
                self.check_closed(fleet, one, other, between)

    def check_closed(self, fleet, one, other, between):
        """The plans between are told each by one by the closed sets."""
        lots = [called(self, closed_of, fleet, one, other, plan) for plan in between]
        for plan, lot in zip(between, lots):
            self.assertEqual(lot, helper.plain_differences(fleet, one, plan))
            check(self, plan, plan_of_closed, fleet, one, other, lot)
        if distance(fleet, one, other) < 8:
            self.assertEqual(sorted(lots), sorted(helper.plain_closed_sets(fleet, one, other)))

    def test_scripts_by_their_numbers(self):
        for seed, fleet in enumerate(SMALL_FLEETS):
            for one, other in helper.pairs_of_plans(fleet, 20, seed):
                if distance(fleet, one, other) < 7:
                    scripts = helper.plain_scripts(fleet, (), one, other)
                    check(self, len(scripts), scripts_many, fleet, one, other)
                    for number in sorted({*range(min(4, len(scripts))), len(scripts) // 2, len(scripts) - 1}):
                        check(self, scripts[number], script_at, fleet, one, other, number)
                        check(self, number, number_of_script, fleet, one, other, scripts[number])
                    for number in (len(scripts), len(scripts) + 1, 10 ** 40 - 1, 10 ** 400):
                        check_raised(self, NoNumber(len(scripts)), script_at, fleet, one, other, number)

    def test_all_plans_between_are_in_the_class(self):
        chosen = random.Random(81)
        for fleet in SMALL_FLEETS:
            for one in helper.plain_plans(fleet)[::4]:
                needed = helper.plain_needed(fleet, helper.drawn_part(chosen, helper.later_leases(fleet)), one)
                for other in needed:
                    self.assertTrue(set(plans_between(fleet, one, other)) <= set(needed))

    def test_equal_plans_and_no_restarts(self):
        for fleet in (*SMALL_FLEETS, helper.LARGE):
            for plan in ((), tuple(range(len(fleet[2])))):
                check(self, (plan,), plans_between, fleet, plan, plan)
                check(self, True, is_between, fleet, plan, plan, plan)
                check(self, (), closed_of, fleet, plan, plan, plan)
                check(self, plan, plan_of_closed, fleet, plan, plan, ())
                check(self, 1, scripts_many, fleet, plan, plan)
                check(self, (), script_at, fleet, plan, plan, 0)
                check(self, 0, number_of_script, fleet, plan, plan, ())
                check_raised(self, NoNumber(1), script_at, fleet, plan, plan, 1)

    def test_one_service(self):
        fleet = (("a",), (0,), ("a",) * 6)
        check(self, ((), (0, 1), (0, 1, 2, 3), (2, 3)), plans_between, fleet, (), (0, 1, 2, 3))
        check(self, 6, scripts_many, fleet, (), tuple(range(6)))
        check(self, (("a", 5), ("a", 3), ("a", 1)), script_at, fleet, (), tuple(range(6)), 5)

    def test_values_that_are_no_plans_between(self):
        for fleet, one, other in ((helper.SMALL, (), (0, 1)), (helper.SOME, (0, 1), (1, 2)), (helper.ALONE, (), ())):
            right = {repr(plan) for plan in plain_between(fleet, one, other)}
            things = [*helper.every_kind(), one, other]
            for plan in helper.plain_plans(fleet):
                things += helper.otherwise(plan)
            for thing in things:
                check(self, repr(thing) in right, is_between, fleet, one, other, thing)

    def test_far_apart(self):
        for fleet, one, other in helper.FAR:
            for function in (plans_between, scripts_many):
                self.assertEqual(helper.quick(self, function, fleet, one, other).most, 2000)
            self.assertEqual(helper.quick(self, script_at, fleet, one, other, 10 ** 300).most, 2000)
            script = script_to(fleet, (), one, other)
            self.assertEqual(helper.quick(self, number_of_script, fleet, one, other, script).most, 2000)
            plan = run(fleet, one, (), script[:len(script) // 2])
            self.assertIs(helper.quick(self, is_between, fleet, one, other, plan), True)
            lot = helper.quick(self, closed_of, fleet, one, other, plan)
            self.assertEqual(len(lot), len(script) // 2)
            self.assertEqual(helper.quick(self, plan_of_closed, fleet, one, other, lot), plan)


class Many(unittest.TestCase):

    def test_exactly_two_thousand_plans(self):
        fleet, one, other = EXACT
        self.assertEqual(count_closed_sets(fleet, one, other), 2000)
        plans = called(self, plans_between, fleet, one, other)
        self.assertEqual((len(plans), list(plans)), (2000, sorted(set(plans))))
        for plan in plans[::10]:
            self.assertIs(is_between(fleet, one, other, plan), True)
        many = called(self, scripts_many, fleet, one, other)
        self.check_numbers(fleet, one, other, many)

    def check_numbers(self, fleet, one, other, many):
        """Some numbers of very many scripts; greater ones have greater scripts."""
        numbers = [0, 1, many // 3, many // 2, many // 2 + 1, many - 2, many - 1]
        scripts = [called(self, script_at, fleet, one, other, number) for number in numbers]
        self.assertEqual(scripts, sorted(set(scripts)))
        for number, script in zip(numbers, scripts):
            self.assertEqual(run(fleet, one, (), script), other)
            self.assertEqual(len(script), distance(fleet, one, other))
            check(self, number, number_of_script, fleet, one, other, script)
        for number in (many, many + 1, 10 ** 300):
            check_raised(self, NoNumber(many), script_at, fleet, one, other, number)

    def test_some_plans_more(self):
        for many, fleet, one, other in MORE:
            self.assertEqual(count_closed_sets(fleet, one, other), many)
            script = script_to(fleet, (), one, other)
            for begin, end, there in ((one, other, script), (other, one, script[::-1])):
                check_raised(self, TooMany(2000), plans_between, fleet, begin, end)
                check_raised(self, TooMany(2000), scripts_many, fleet, begin, end)
                check_raised(self, TooMany(2000), script_at, fleet, begin, end, 0)
                check_raised(self, TooMany(2000), script_at, fleet, begin, end, 10 ** 300)
                check_raised(self, TooMany(2000), number_of_script, fleet, begin, end, there)

    def test_leases_that_share_no_stretch(self):
        # Seven of them differ, by one edge each: each order of them is a script.
        fleet = (("a", "b"), (0, 1), ("a",) * 20 + ("b",) * 20)
        one, other = (), (0, 1, 5, 6, 8, 9, 15, 16, 20, 21, 25, 26, 30, 31)
        many = called(self, scripts_many, fleet, one, other)
        self.assertEqual(many, 5040)
        self.check_numbers(fleet, one, other, many)

    def test_the_order_of_numbers_at_their_ends(self):
        for fleet, one, other in (EXACT, ((("a",), (0,), ("a",) * 20), (), tuple(range(20)))):
            many = scripts_many(fleet, one, other)
            least, greatest = [], []
            for script, choose in ((least, min), (greatest, max)):
                plan = one
                while plan != other:
                    far = distance(fleet, plan, other)
                    steps = {x: run(fleet, plan, (), (x,)) for x in helper.later_leases(fleet)
                             if helper.outcome(run, (fleet, plan, (), (x,)))[0] == "returned"}
                    script.append(choose(x for x in steps if distance(fleet, steps[x], other) < far))
                    plan = steps[script[-1]]
            check(self, tuple(least), script_at, fleet, one, other, 0)
            check(self, tuple(greatest), script_at, fleet, one, other, many - 1)
            check(self, many - 1, number_of_script, fleet, one, other, tuple(greatest))


if __name__ == "__main__":
    unittest.main()
