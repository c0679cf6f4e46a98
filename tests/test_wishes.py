"""[33] wishes: measured by the machines of all plans of drawn small fleets."""

import random
import unittest

import helper
from helper import check
from sparehop.vertices import vertices_of
from sparehop.wishes import are_wishes, is_granted, may_hop, missed, suits

SMALL_FLEETS = (helper.SMALL, helper.ALONE, helper.STILL, helper.SOME, *helper.drawn_fleets(8, 4, 5, 130))


class Wishes(unittest.TestCase):

    def test_all_wishes_of_all_plans(self):
        for fleet in SMALL_FLEETS:
            wishes = helper.every_wish(fleet)
            self.assertTrue(all(are_wishes(fleet, (wish,)) for wish in wishes))
            for plan in helper.plain_plans(fleet)[::3]:
                for wish in wishes:
                    self.assertIs(is_granted(fleet, plan, wish), helper.plain_granted(fleet, plan, wish))
                for wish in wishes[::9]:
                    check(self, helper.plain_granted(fleet, plan, wish), is_granted, fleet, plan, wish)

    def test_wishes_that_are_missed(self):
        chosen = random.Random(131)
        for fleet in SMALL_FLEETS:
            for plan in helper.plain_plans(fleet)[::3]:
                for most in (0, 1, 3, 40):
                    wishes = helper.drawn_wishes(chosen, fleet, most)
                    expected = tuple(index for index, wish in enumerate(wishes)
                                     if not helper.plain_granted(fleet, plan, wish))
                    check(self, expected, missed, fleet, plan, wishes)
            check(self, (), missed, fleet, (), ())
        stay = (("stay", 1),) * 40
        check(self, tuple(range(40)), missed, helper.SMALL, (1,), stay)
        check(self, (), missed, helper.SMALL, (0, 2), stay)

    def test_a_plan_grants_what_its_points_suit_and_its_hops_may(self):
        chosen = random.Random(132)
        found = {True: 0, False: 0}
        for fleet in SMALL_FLEETS:
            for plan in helper.plain_plans(fleet)[::2]:
                wishes = helper.drawn_wishes(chosen, fleet, 3)
                told = [suits(fleet, wishes, k, word) for k, word in enumerate(vertices_of(fleet, plan))]
                told += [may_hop(wishes, number) for number in plan]
                expected = all(helper.plain_granted(fleet, plan, wish) for wish in wishes)
                self.assertIs(all(told), expected)
                found[expected] += 1
        self.assertGreater(min(found.values()), 20)

    def test_points_that_suit(self):
        chosen = random.Random(133)
        for fleet in SMALL_FLEETS:
            for _ in range(30):
                wishes = helper.drawn_wishes(chosen, fleet, 4)
                stretch = chosen.randint(0, len(fleet[2]))
                word = helper.drawn_word(chosen, fleet, 9)
                expected = helper.plain_suits(fleet, wishes, stretch, word)
                check(self, expected, suits, fleet, wishes, stretch, word)
            for stretch in range(len(fleet[2]) + 1):
                check(self, True, suits, fleet, (), stretch, ())
        # Each of both services has changed to the spare machine and back: all is as it was.
        word = ("a", "b", "a") * 2
        check(self, True, suits, helper.SMALL, (("on", "a", 2, 0), ("on", "b", 2, 1), ("spare", 2, 0, 3)), 2, word)
        check(self, True, suits, helper.SMALL, (("spare", 2, 0, 1), ("spare", 1, 2, 2), ("spare", 0, 3, 3)), 2, ("a", "b"))

    def test_restarts_at_which_none_may_hop(self):
        wishes = (("stay", 0), ("on", "a", 1, 1), ("spare", 1, 1, 1), ("stay", 2), ("stay", 2))
        for number in range(3):
            check(self, number == 1, may_hop, wishes, number)
            check(self, True, may_hop, (), number)
            check(self, True, may_hop, wishes[1:3], number)

    def test_at_most_forty_in_any_order(self):
        chosen = random.Random(134)
        for fleet in SMALL_FLEETS:
            wishes = helper.every_wish(fleet) * 41
            for many in (0, 1, 39, 40):
                for _ in range(3):
                    chosen.shuffle(wishes)
                    check(self, True, are_wishes, fleet, tuple(wishes[:many]))
                    check(self, False, are_wishes, fleet, wishes[:many])
            check(self, False, are_wishes, fleet, tuple(wishes[:41]))
            check(self, False, are_wishes, fleet, (wishes[0],) * 41)

    def test_values_that_are_no_wishes(self):
        strange = [
            ("on", "c", 0, 0), ("on", "a", 4, 0), ("on", "a", -1, 0), ("on", "a", 0, 3), ("on", "a", 0, -1),
            ("on", "a", 0), ("on", "a", 0, 0, 0), ("on", 0, "a", 0), ("On", "a", 0, 0), ("at", "a", 0, 0),
            ("off", "c", 0, 0), ("off", "a", 4, 0), ("off", "a", 0, 3), ("off", "a", True, 0), ("off", "a", 0, False),
            ("spare", 3, 0, 0), ("spare", -1, 0, 0), ("spare", 0, 2, 1), ("spare", 0, 0, 4), ("spare", 0, -1, 2),
            ("spare", 0, 4, 4), ("spare", "a", 0, 0), ("spare", 0, 0), ("spare", True, 0, 1), ("spare", 0, False, True),
            ("stay", 3), ("stay", -1), ("stay", True), ("stay", "a"), ("stay",), ("stay", 0, 0), ("stay", (0,)),
            ["stay", 0], "stay", ("on",), (), None, ("", "a", 0, 0), (None, "a", 0, 0), ((),),
        ]
        for thing in strange:
            check(self, False, are_wishes, helper.SMALL, (thing,))
            check(self, False, are_wishes, helper.SMALL, (("stay", 0), thing))
        chosen = random.Random(135)
        for fleet in (helper.SMALL, helper.ALONE, helper.SOME):
            right = {repr(wish) for wish in helper.every_wish(fleet)}
            wishes = tuple(chosen.choice(helper.every_wish(fleet)) for _ in range(3))
            spare = (("spare", 0, 0, len(fleet[2])), ("on", fleet[0][0], 0, 1))
            things = [*helper.every_kind(), *strange, *(wishes[:1]), wishes, wishes * 13, wishes * 14, spare]
            for told in (wishes, spare):
                things += [*helper.otherwise(told), *helper.twice_otherwise(told, 100, chosen.random())]
            for thing in things:
                expected = type(thing) is tuple and len(thing) <= 40 and all(repr(part) in right for part in thing)
                check(self, expected, are_wishes, fleet, thing)

    def test_no_restarts(self):
        check(self, False, are_wishes, helper.STILL, (("stay", 0),))
        check(self, True, are_wishes, helper.STILL, (("spare", 1, 0, 0), ("on", "web", 0, 2), ("off", "web", 0, 2)))
        check(self, (2,), missed, helper.STILL, (), (("spare", 1, 0, 0), ("on", "web", 0, 2), ("off", "web", 0, 2)))


if __name__ == "__main__":
    unittest.main()
