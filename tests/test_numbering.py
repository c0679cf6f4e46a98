"""[32] plans numbered: measured by going through the classes by edits, and by classes of 2 ** 60 plans."""

import random
import unittest

import helper
from helper import check, check_raised
from sparehop.classes import many_plans
from sparehop.errors import NoNumber, NoWay, TooMany
from sparehop.leading import barring
from sparehop.numbering import all_plans, number_below, number_of, plan_at

SMALL_FLEETS = (helper.SMALL, helper.ALONE, helper.STILL, helper.SOME, *helper.drawn_fleets(8, 4, 6, 120),
                helper.letters("abababa"), helper.letters("abcabac"), helper.letters("aabcbaab"))


def drawn_classes(many, seed):
    chosen = random.Random(seed)
    for fleet in SMALL_FLEETS:
        yield fleet, (), ()
        yield fleet, helper.later_leases(fleet), helper.plain_plans(fleet)[-1]
        for _ in range(many):
            yield fleet, helper.drawn_pins(chosen, fleet), chosen.choice(helper.plain_plans(fleet))


class Numbering(unittest.TestCase):

    def test_against_going_through_the_class(self):
        chosen = random.Random(121)
        for fleet, pins, plan in drawn_classes(6, 122):
            plans = sorted(helper.plain_needed(fleet, pins, plan))
            many = len(plans)
            numbers = {0, many - 1, *(chosen.randrange(many) for _ in range(6))}
            for number in sorted(numbers):
                check(self, plans[number], plan_at, fleet, pins, plan, number)
                check(self, number, number_of, fleet, pins, plan, plans[number])
            self.assertEqual([plan_at(fleet, pins, plan, number) for number in range(many)], plans)
            for number in (many, many + 1, 10 ** 40 - 1):
                check_raised(self, NoNumber(many), plan_at, fleet, pins, plan, number)

    def test_plans_that_are_in_the_class_or_not(self):
        found = {True: 0, False: 0}
        for fleet, pins, plan in drawn_classes(3, 123):
            plans = set(helper.plain_needed(fleet, pins, plan))
            for other in helper.plain_plans(fleet)[::3]:
                below = sum(one < other for one in plans)
                check(self, below, number_below, fleet, pins, plan, other)
                found[other in plans] += 1
                if other in plans:
                    check(self, below, number_of, fleet, pins, plan, other)
                else:
                    lease = barring(fleet, pins, plan, other)[0]
                    check_raised(self, NoWay(lease), number_of, fleet, pins, plan, other)
        self.assertGreater(min(found.values()), 100)

    def test_all_plans_and_most(self):
        for fleet, pins, plan in drawn_classes(3, 124):
            plans = tuple(sorted(helper.plain_needed(fleet, pins, plan)))
            for most in (len(plans), len(plans) + 1, 10 ** 40 - 1):
                check(self, plans, all_plans, fleet, pins, plan, most)
            for most in {0, len(plans) // 2, len(plans) - 1}:
                check_raised(self, TooMany(most), all_plans, fleet, pins, plan, most)

    def test_all_plans_of_a_class_have_the_same_first_one(self):
        for fleet, pins, _ in drawn_classes(1, 125):
            firsts = {}
            for plan in helper.plain_plans(fleet):
                firsts.setdefault(plan_at(fleet, pins, plan, 0), []).append(plan)
            for first, plans in firsts.items():
                self.assertEqual(set(plans), set(helper.plain_needed(fleet, pins, first)))

    def test_no_restarts_and_all_pinned(self):
        for fleet in (helper.ALONE, helper.STILL):
            check(self, (), plan_at, fleet, (), (), 0)
            check(self, 0, number_of, fleet, (), (), ())
            check(self, 0, number_below, fleet, (), (), ())
            check(self, ((),), all_plans, fleet, (), (), 1)
            check_raised(self, TooMany(0), all_plans, fleet, (), (), 0)
            check_raised(self, NoNumber(1), plan_at, fleet, (), (), 1)
        every = tuple(range(60))
        later = helper.later_leases(helper.LARGE)
        check(self, every, plan_at, helper.LARGE, later, every, 0)
        check(self, 0, number_of, helper.LARGE, later, every, every)
        check(self, 0, number_below, helper.LARGE, later, every, every[:30])
        check(self, 1, number_below, helper.LARGE, later, every, (*every[:30], 31))
        check(self, (every,), all_plans, helper.LARGE, later, every, 1)

    def test_so_many_that_none_goes_through_them(self):
        chosen = random.Random(126)
        for fleet in (helper.LONGEST, helper.letters("ab" * 30)):
            many = 2 ** 60
            check_raised(self, NoNumber(many), plan_at, fleet, (), (7,), many)
            check_raised(self, TooMany(many - 1), all_plans, fleet, (), (7,), many - 1)
            # All ascending tuples of the numbers below 60, in order: the last one is the last restart alone.
            self.assertEqual(plan_at(fleet, (), (7,), many - 1), (59,))
            self.assertEqual(plan_at(fleet, (), (7,), 60), tuple(range(60)))
            for number in [0, 1, many // 2, *(chosen.randrange(many) for _ in range(8))]:
                plan = helper.quick(self, plan_at, fleet, (), (7,), number)
                self.assertEqual(helper.quick(self, number_of, fleet, (), (7,), plan), number)
                self.assertEqual(helper.quick(self, number_below, fleet, (), (7,), plan), number)
            self.assertEqual(number_below(fleet, (), (7,), (1,)), 2 ** 59 + 1)
            self.assertEqual(number_below(fleet, (), (7,), ()), 0)

    def test_pinned_classes_of_millions(self):
        fleet = helper.letters("abcabcabc" * 6)
        pins = tuple(lease for lease in helper.later_leases(fleet) if lease[1] % 4 == 1)
        plan = tuple(range(0, 54, 3))
        many = many_plans(fleet, pins, plan)
        self.assertGreater(many, 10 ** 4)
        chosen, told = random.Random(127), []
        numbers = sorted({0, many - 1, *(chosen.randrange(many) for _ in range(30))})
        for number in numbers:
            other = helper.quick(self, plan_at, fleet, pins, plan, number)
            self.assertEqual(barring(fleet, pins, plan, other), ())
            self.assertEqual(number_of(fleet, pins, plan, other), number)
            told.append(other)
        self.assertEqual(told, sorted(told))

    def test_tens_of_thousands_of_plans(self):
        fleet = helper.letters("a" * 16)
        plans = helper.quick(self, all_plans, fleet, (), (3,), 2 ** 16)
        self.assertEqual(list(plans), sorted(helper.plain_plans(fleet)))
        self.assertTrue(helper.same(helper.quick(self, all_plans, fleet, (), (3,), 2 ** 16 - 1), TooMany(2 ** 16 - 1)))

    def test_four_thousand_points(self):
        fleet, pins = helper.JUST_ENOUGH
        many = many_plans(fleet, pins, ())
        self.assertEqual(helper.quick(self, plan_at, fleet, pins, (), many - 1), (len(fleet[2]) - 1,))
        check_raised(self, NoNumber(many), plan_at, fleet, pins, (), many)
        check_raised(self, NoWay(("zz", 1)), number_of, fleet, pins, (), (0,))
        self.assertEqual(len(helper.quick(self, all_plans, fleet, pins, (), many)), many)
        check_raised(self, TooMany(many - 1), all_plans, fleet, pins, (), many - 1)
        fleet, pins = helper.ONE_TOO_MANY
        for arguments in ((plan_at, 0), (plan_at, 10 ** 30), (number_of, ()), (number_of, (0,)), (number_below, ()),
                          (number_below, (0,)), (all_plans, 0), (all_plans, 10 ** 30), (all_plans, 4000)):
            check_raised(self, TooMany(4000), arguments[0], fleet, pins, (), arguments[1])


if __name__ == "__main__":
    unittest.main()
