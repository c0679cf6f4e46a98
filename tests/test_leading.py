"""[24], [5], [6] and [7] scripts from one plan to another: measured by going through the classes by edits."""

import random
import unittest

import helper
from helper import called, check, check_raised
from sparehop.apart import aparts, distance
from sparehop.differences import differences
from sparehop.edits import is_script, run
from sparehop.errors import NoWay, TooMany
from sparehop.leading import barring, class_of, fewest_edits, is_shortest, leads, script_to, shortened
from sparehop.precedence import preceding

SMALL_FLEETS = (helper.SMALL, helper.ALONE, helper.STILL, helper.SOME, *helper.drawn_fleets(10, 4, 5, 65))

# Services, their restarts, pins and a plan with a class of so many plans. All last leases of the first
# three and of SIXTY_NINE are pinned: so nothing behind them changes anything in them, nor they anything behind.
TEN = (("a", "b"), tuple("ababab"), (("a", 5), ("b", 6)), ())
ANOTHER_TEN = (("c", "d"), tuple("cdcdcd"), (("c", 5), ("d", 6)), (0, 4))
TWENTY = (("f", "g"), tuple("fgffgfg"), (("f", 6), ("g", 7)), (2, 3))
SIXTY_NINE = (("a", "b", "c"), tuple("babcabacbac"), (("a", 10), ("b", 9), ("c", 11)), ())
TWENTY_NINE = (("d", "e", "f", "g"), tuple("fdegegdfg"), (("g", 9),), (3, 5, 8))


def one_behind_the_other(parts):
    """The fleet in which the parts follow one another, with its pins, its plan, and all plans of its class."""
    services = sorted(name for names, _, _, _ in parts for name in names)
    restarts, pins, plan, plans = (), (), (), [()]
    for names, told, more, hops in parts:
        alone = (names, tuple(range(len(names))), told)
        at = len(restarts)
        plans = [(*x, *(at + j for j in y)) for x in plans for y in helper.plain_needed(alone, more, hops)]
        pins += tuple((service, at + begin) for service, begin in more)
        plan += tuple(at + j for j in hops)
        restarts += told
    fleet = (tuple(services), tuple(range(1, len(services) + 1)), restarts)
    return fleet, tuple(sorted(pins)), plan, tuple(sorted(plans))


class Leading(unittest.TestCase):

    def test_a_script_leads_exactly_if_no_pinned_lease_is_apart(self):
        chosen = random.Random(66)
        found = {True: 0, False: 0}
        for fleet in SMALL_FLEETS:
            plans = helper.plain_plans(fleet)
            for one in plans[::2]:
                pins = helper.drawn_pins(chosen, fleet)
                needed = helper.plain_needed(fleet, pins, one)
                check(self, tuple(sorted(needed)), class_of, fleet, pins, one)
                for other in plans[::3]:
                    found[other in needed] += 1
                    self.check_pair(fleet, pins, one, other, needed.get(other))
        self.assertGreater(min(found.values()), 100)

    def check_pair(self, fleet, pins, one, other, needed):
        apart = helper.plain_aparts(fleet, one, other)
        barred = tuple(lease for lease in pins if apart[lease])
        self.assertEqual(barred == (), needed is not None)
        check(self, barred, barring, fleet, pins, one, other)
        check(self, not barred, leads, fleet, pins, one, other)
        check(self, needed, fewest_edits, fleet, pins, one, other)
        if barred:
            check_raised(self, NoWay(barred[0]), script_to, fleet, pins, one, other)
            check(self, True, leads, fleet, tuple(lease for lease in pins if lease not in barred), one, other)
            check(self, False, is_shortest, fleet, pins, one, other, script_to(fleet, (), one, other))
        else:
            script = called(self, script_to, fleet, pins, one, other)
            self.assertEqual(helper.plain_behind(fleet, one, pins, script), other)
            self.assertEqual((len(script), distance(fleet, one, other)), (needed, needed))
            self.assertEqual({x: script.count(x) for x in apart}, apart)
            check(self, True, is_shortest, fleet, pins, one, other, script)

    def test_shortest_scripts_are_the_orders_of_the_differences(self):
        for seed, fleet in enumerate(SMALL_FLEETS):
            for one, other in helper.pairs_of_plans(fleet, 12, seed):
                if distance(fleet, one, other) < 7:
                    scripts = helper.plain_scripts(fleet, (), one, other)
                    orders = self.orders(differences(fleet, one, other), preceding(fleet, one, other))
                    self.assertEqual(scripts, sorted(tuple(item[0] for item in order) for order in orders))
                    for script in scripts:
                        self.assertIs(is_shortest(fleet, (), one, other, script), True)

    def orders(self, left, before):
        """All orders of differences in which none comes before one that precedes it."""
        if not left:
            return [()]
        first = [item for item in left if not set(before[item]) & set(left)]
        return [(item, *rest) for item in first
                for rest in self.orders([other for other in left if other != item], before)]

    def test_with_no_pins_each_plan_leads_to_each(self):
        for seed, fleet in enumerate(SMALL_FLEETS):
            every = tuple(sorted(helper.plain_plans(fleet)))
            check(self, every, class_of, fleet, (), every[len(every) // 2])
            for one, other in helper.pairs_of_plans(fleet, 30, seed):
                check(self, True, leads, fleet, (), one, other)
                check(self, (), barring, fleet, (), one, other)
                self.check_pair(fleet, (), one, other, helper.plain_needed(fleet, (), one)[other])

    def test_all_leases_pinned(self):
        for fleet in SMALL_FLEETS:
            pins = helper.later_leases(fleet)
            for plan in helper.plain_plans(fleet):
                check(self, (plan,), class_of, fleet, pins, plan)
                check(self, (), script_to, fleet, pins, plan, plan)
                for other in helper.plain_plans(fleet)[:3]:
                    check(self, plan == other, leads, fleet, pins, plan, other)
                    check(self, 0 if plan == other else None, fewest_edits, fleet, pins, plan, other)

    def test_equal_plans_and_no_restarts(self):
        for fleet in (*SMALL_FLEETS, helper.LARGE):
            for plan in ((), tuple(range(len(fleet[2])))):
                check(self, (), script_to, fleet, helper.later_leases(fleet), plan, plan)
                check(self, True, leads, fleet, helper.later_leases(fleet), plan, plan)
                check(self, True, is_shortest, fleet, (), plan, plan, ())
                check(self, (), shortened, fleet, (), plan, ())
        check(self, ((),), class_of, helper.STILL, (), ())
        check(self, 0, fewest_edits, helper.STILL, (), (), ())

    def test_one_service(self):
        fleet = (("a",), (0,), ("a",) * 6)
        check(self, (("a", 1), ("a", 3), ("a", 5)), script_to, fleet, (), (), tuple(range(6)))
        check_raised(self, NoWay(("a", 3)), script_to, fleet, (("a", 2), ("a", 3), ("a", 5)), (), tuple(range(6)))
        check(self, (("a", 3), ("a", 5)), barring, fleet, (("a", 2), ("a", 3), ("a", 5)), (), tuple(range(6)))

    def test_scripts_shortened(self):
        chosen = random.Random(67)
        for fleet in SMALL_FLEETS:
            for plan in helper.plain_plans(fleet)[::3]:
                pins, script, now = helper.drawn_pins(chosen, fleet), [], plan
                for _ in range(chosen.randint(0, 12)):
                    edits = {x: y for x, y in helper.plain_graph(fleet)[now].items() if x not in pins}
                    if edits:
                        script.append(chosen.choice(list(edits)))
                        now = edits[script[-1]]
                short = called(self, shortened, fleet, pins, plan, tuple(script))
                self.assertEqual(helper.plain_behind(fleet, plan, pins, short), now)
                self.assertEqual(len(short), helper.plain_needed(fleet, pins, plan)[now])
                check(self, len(script) == len(short), is_shortest, fleet, pins, plan, now, tuple(script))

    def test_values_that_are_no_shortest_scripts(self):
        chosen = random.Random(68)
        rows = ((helper.SMALL, (), (), (0, 1)), (helper.SMALL, (("a", 3),), (0, 2), ()), (helper.ALONE, (), (), ()),
                (helper.SOME, (), (0, 1), (1, 2)), (helper.SMALL, (("a", 3),), (), (0, 1)))
        for fleet, pins, one, other in rows:
            barred = barring(fleet, pins, one, other)
            right = set() if barred else {repr(script) for script in helper.plain_scripts(fleet, pins, one, other)}
            script = script_to(fleet, (), one, other)
            things = [*helper.every_kind(), script[::-1], script * 2, (*script, *script[-1:] * 2), other]
            things += helper.otherwise(script)
            things += helper.twice_otherwise(script, 100, chosen.random())
            for thing in things:
                check(self, repr(thing) in right, is_shortest, fleet, pins, one, other, thing)

    def test_far_apart(self):
        for fleet, one, other in helper.FAR:
            script = helper.quick(self, script_to, fleet, (), one, other)
            self.assertIs(helper.quick(self, is_shortest, fleet, (), one, other, script), True)
            self.assertEqual({x: script.count(x) for x in set(script)}, aparts(fleet, one, other))
            self.assertEqual(run(fleet, one, (), script), other)
            self.assertIs(helper.quick(self, is_shortest, fleet, (), one, other, (*script, *script[-1:] * 2)), False)
            self.assertIs(helper.quick(self, is_shortest, fleet, (), one, other, script[1:]), False)
            pins = helper.later_leases(fleet)
            barred = helper.quick(self, barring, fleet, pins, one, other)
            self.assertEqual(barred, tuple(aparts(fleet, one, other)))
            self.assertEqual(helper.quick(self, script_to, fleet, pins, one, other).lease, barred[0])
            longer = ((fleet[2][-1], 60),) * 100 + script
            self.assertTrue(is_script(fleet, one, (), longer))
            short = helper.quick(self, shortened, fleet, (), one, longer)
            self.assertIs(is_shortest(fleet, (), one, other, short), True)


class Classes(unittest.TestCase):

    def test_exactly_two_thousand_plans(self):
        fleet, pins, plan, plans = one_behind_the_other((TEN, ANOTHER_TEN, TWENTY))
        self.assertEqual(len(plans), 2000)
        self.assertEqual(called(self, class_of, fleet, pins, plan), plans)
        for other in (plans[0], plan, plans[-1], plans[777]):
            needed = distance(fleet, plan, other)
            check(self, needed, fewest_edits, fleet, pins, plan, other)
        check(self, None, fewest_edits, fleet, pins, plan, tuple(range(len(fleet[2]))))

    def test_one_plan_more(self):
        fleet, pins, plan, plans = one_behind_the_other((SIXTY_NINE, TWENTY_NINE))
        self.assertEqual(len(plans), 2001)
        for begin in (plan, plans[0], plans[-1]):
            check_raised(self, TooMany(2000), class_of, fleet, pins, begin)
            for other in (plan, begin, plans[0], plans[1000], ()):
                check_raised(self, TooMany(2000), fewest_edits, fleet, pins, begin, other)

    def test_many_plans(self):
        for fleet, one, other in helper.FAR:
            self.assertEqual(helper.quick(self, class_of, fleet, (), one).most, 2000)
            self.assertEqual(helper.quick(self, fewest_edits, fleet, (), one, other).most, 2000)
            self.assertEqual(helper.quick(self, fewest_edits, fleet, (), one, one).most, 2000)

    def test_a_plan_that_is_not_in_the_class(self):
        check(self, None, fewest_edits, helper.SMALL, (("a", 3),), (), (0, 1))
        check(self, None, fewest_edits, helper.SMALL, (("a", 3), ("b", 2)), (), (0,))

    def test_two_thousand_plans_with_sixty_restarts(self):
        fleet = (tuple("abcdefgh"), tuple(range(8)), tuple("abcdefgh"[k % 8] for k in range(60)))
        free = [lease for lease in helper.later_leases(fleet) if lease[0] == "a" or lease[1] > 58]
        pins = tuple(lease for lease in helper.later_leases(fleet) if lease not in free)
        told = helper.quick(self, class_of, fleet, pins, ())
        self.assertEqual(len(told), len(set(told)))
        self.assertGreater(len(told), 255)
        self.assertEqual(list(told), sorted(told))
        for other in told[::100]:
            self.assertTrue(leads(fleet, pins, (), other))
            self.assertEqual(helper.quick(self, fewest_edits, fleet, pins, (), other), distance(fleet, (), other))


if __name__ == "__main__":
    unittest.main()
