"""[23] which differences precede which: measured by going back along the ways step by step."""

import itertools
import random
import unittest

import helper
from helper import called, check
from sparehop.apart import distance
from sparehop.differences import differences
from sparehop.precedence import (
    are_closed, closed_with, directly_precedes, free_differences, opened_with, preceding, precedes,
)

SMALL_FLEETS = (helper.SMALL, helper.ALONE, helper.STILL, helper.SOME, *helper.drawn_fleets(10, 4, 5, 61))


def with_all_before(before, lot):
    return tuple(sorted(set(lot).union(*(before[item] for item in lot))))


def with_all_behind(before, lot):
    return tuple(sorted(item for item in before if item in lot or before[item] & set(lot)))


class Precedence(unittest.TestCase):

    def test_pairs_of_plans(self):
        for seed, fleet in enumerate(SMALL_FLEETS):
            for one, other in helper.pairs_of_plans(fleet, 40, seed):
                self.check_pair(fleet, one, other)

    def check_pair(self, fleet, one, other):
        direct = helper.plain_direct(fleet, one, other)
        before = helper.plain_preceding(fleet, one, other)
        expected = {item: tuple(sorted(before[item])) for item in before}
        check(self, expected, preceding, fleet, one, other)
        self.assertEqual(list(called(self, preceding, fleet, one, other)), sorted(expected))
        check(self, tuple(item for item in expected if not expected[item]), free_differences, fleet, one, other)
        for first, second in itertools.product(expected, repeat=2):
            self.assertIs(directly_precedes(fleet, one, other, first, second), (first, second) in direct)
            self.assertIs(precedes(fleet, one, other, first, second), first in before[second])

    def test_one_pair_after_the_other(self):
        lot = differences(helper.SMALL, (), (0, 1, 2))
        told = [[directly_precedes(helper.SMALL, (), (0, 1, 2), *pair), precedes(helper.SMALL, (), (0, 1, 2), *pair)]
                for pair in itertools.product(lot, repeat=2)]
        # a 1 and a 3 over the first edge, a 3 over the later one, b 2: a 1 precedes b 2, and that a 3 again.
        self.assertEqual(told, [
            [False, False], [False, False], [False, True], [True, True],
            [False, False], [False, False], [True, True], [True, True],
            [False, False], [False, False], [False, False], [False, False],
            [False, False], [False, False], [True, True], [False, False],
        ])
        check(self, True, directly_precedes, helper.SMALL, (), (0, 1, 2), lot[0], lot[3])
        check(self, False, directly_precedes, helper.SMALL, (), (0, 1, 2), lot[0], lot[2])
        check(self, True, precedes, helper.SMALL, (), (0, 1, 2), lot[0], lot[2])
        check(self, False, precedes, helper.SMALL, (), (0, 1, 2), lot[2], lot[0])

    def test_large_fleets(self):
        chosen = random.Random(62)
        for fleet in helper.drawn_fleets(3, 8, 25, 63):
            every = tuple(range(len(fleet[2])))
            one, other = helper.drawn_part(chosen, every), helper.drawn_part(chosen, every)
            before = helper.plain_preceding(fleet, one, other)
            check(self, {item: tuple(sorted(before[item])) for item in before}, preceding, fleet, one, other)
            for _ in range(4):
                lot = helper.drawn_part(chosen, tuple(before))
                check(self, with_all_before(before, lot), closed_with, fleet, one, other, lot)
                check(self, with_all_behind(before, lot), opened_with, fleet, one, other, lot)

    def test_equal_plans_and_no_restarts(self):
        for fleet in (*SMALL_FLEETS, helper.LARGE):
            for plan in ((), tuple(range(len(fleet[2])))):
                check(self, {}, preceding, fleet, plan, plan)
                check(self, (), free_differences, fleet, plan, plan)
                check(self, True, are_closed, fleet, plan, plan, ())
                check(self, (), closed_with, fleet, plan, plan, ())
                check(self, (), opened_with, fleet, plan, plan, ())

    def test_one_service(self):
        fleet = (("a",), (0,), ("a",) * 4)
        lot = differences(fleet, (), (0, 2))
        check(self, lot, free_differences, fleet, (), (0, 2))
        check(self, {item: () for item in lot}, preceding, fleet, (), (0, 2))

    def test_free_differences_are_the_edits_that_bring_nearer(self):
        for seed, fleet in enumerate(SMALL_FLEETS):
            for one, other in helper.pairs_of_plans(fleet, 60, seed):
                free = free_differences(fleet, one, other)
                far = distance(fleet, one, other)
                nearer = []
                for lease, behind in helper.plain_graph(fleet)[one].items():
                    told = distance(fleet, behind, other)
                    self.assertIn(told, (far - 1, far + 1))
                    nearer += [lease] * (told < far)
                    if told < far:
                        gone = set(differences(fleet, one, other)) - set(differences(fleet, behind, other))
                        self.assertTrue(gone <= set(free) and [lease] == [item[0] for item in gone])
                self.assertEqual([lease for lease, _ in free], nearer)

    def test_far_apart(self):
        for fleet, one, other in helper.FAR:
            lot = differences(fleet, one, other)
            before = helper.quick(self, preceding, fleet, one, other)
            self.assertEqual(list(before), list(lot))
            free = helper.quick(self, free_differences, fleet, one, other)
            self.assertEqual(free, tuple(item for item in lot if not before[item]))
            ahead = helper.plain_ahead(fleet, one, other)
            told = {item: set(before[item]) for item in lot}
            for item in lot[::9]:
                self.assertEqual(told[item], ahead[item].union(*(told[first] for first in ahead[item])))
                self.assertFalse(any(item in told[first] for first in ahead[item]))
            middle, last = lot[len(lot) // 2], lot[-1]
            self.assertIs(helper.quick(self, precedes, fleet, one, other, middle, last), middle in told[last])
            self.assertIs(helper.quick(self, directly_precedes, fleet, one, other, middle, last),
                          middle in ahead[last])
            closed = helper.quick(self, closed_with, fleet, one, other, lot[::7])
            self.assertEqual(closed, with_all_before(told, lot[::7]))
            self.assertEqual(helper.quick(self, opened_with, fleet, one, other, lot[::7]),
                             with_all_behind(told, lot[::7]))
            for part in (lot, closed, lot[1:], ()):
                expected = all(told[item] <= set(part) for item in part)
                self.assertIs(helper.quick(self, are_closed, fleet, one, other, part), expected)

    def test_what_is_returned_may_be_changed(self):
        helper.check_changeable(self, preceding, helper.SMALL, (), (0, 1, 2))


class ClosedSets(unittest.TestCase):

    def test_all_sets(self):
        for seed, fleet in enumerate(SMALL_FLEETS):
            for one, other in helper.pairs_of_plans(fleet, 12, seed):
                before = helper.plain_preceding(fleet, one, other)
                if len(before) < 9:
                    self.check_sets(fleet, one, other, before)

    def check_sets(self, fleet, one, other, before):
        closed = helper.plain_closed_sets(fleet, one, other)
        for many in range(len(before) + 1):
            for lot in itertools.combinations(sorted(before), many):
                self.assertIs(are_closed(fleet, one, other, lot), lot in closed)
                self.assertEqual(closed_with(fleet, one, other, lot), with_all_before(before, lot))
                self.assertEqual(opened_with(fleet, one, other, lot), with_all_behind(before, lot))
        for lot in closed:
            check(self, True, are_closed, fleet, one, other, lot)
            check(self, lot, closed_with, fleet, one, other, lot)
            check(self, False, are_closed, fleet, one, other, list(lot))

    def test_values_that_are_no_closed_sets(self):
        chosen = random.Random(64)
        for fleet, one, other in ((helper.SMALL, (), (0, 1)), (helper.SOME, (0, 1), (1, 2)), (helper.ALONE, (), ())):
            right = {repr(lot) for lot in helper.plain_closed_sets(fleet, one, other)}
            lot = differences(fleet, one, other)
            strange = (("a", 0), ((), "a"))
            things = [*helper.every_kind(), lot[::-1], (*lot, *lot), {item: 0 for item in lot}, (strange,),
                      tuple(sorted((*lot, strange))), differences(fleet, other, one), *lot]
            for part in (lot, lot[:1], lot[:2]):
                things += helper.otherwise(part)
                things += helper.twice_otherwise(part, 60, chosen.random())
            for thing in things:
                check(self, repr(thing) in right, are_closed, fleet, one, other, thing)

    def test_differences_to_another_plan(self):
        lot = differences(helper.SMALL, (), (0, 1))
        check(self, True, are_closed, helper.SMALL, (), (0, 1), lot)
        check(self, False, are_closed, helper.SMALL, (), (0,), lot)
        check(self, True, are_closed, helper.SMALL, (), (0,), lot[:2])
        check(self, False, are_closed, helper.SMALL, (0,), (0,), lot[:1])


if __name__ == "__main__":
    unittest.main()
