"""[28] and [7] rounds: measured by going through all rounds, and all rows of differences."""

import functools
import itertools
import random
import unittest

import helper
from helper import called, check, check_raised
from sparehop.differences import differences
from sparehop.errors import NoWay
from sparehop.leading import barring, script_to
from sparehop.rounds import are_rounds, fewest_rounds, is_row, longest_row, rounds_to

SMALL_FLEETS = (helper.SMALL, helper.ALONE, helper.STILL, helper.SOME, *helper.drawn_fleets(10, 4, 5, 90))


def share_nothing(fleet, leases):
    stretches = [stretch for lease in leases for stretch in helper.plain_stretches(fleet, lease)]
    return len(stretches) == len(set(stretches))


@functools.lru_cache(maxsize=None)
def plain_rounds(fleet, plan):
    """The dict from all rounds in a plan, with no pins, to the plans to which they lead."""
    edits = list(helper.plain_graph(fleet)[plan])
    rounds = {}
    for many in range(1, len(edits) + 1):
        for leases in itertools.combinations(edits, many):
            if share_nothing(fleet, leases):
                (rounds[leases],) = {helper.plain_behind(fleet, plan, (), order)
                                     for order in (leases, leases[::-1], leases[1:] + leases[:1])}
    return rounds


def plain_fewest(fleet, pins, one):
    """The dict from the plans of a class to how many rounds are needed, found by doing rounds."""
    needed, waiting = {one: 0}, [one]
    for before in waiting:
        for leases, behind in plain_rounds(fleet, before).items():
            if behind not in needed and not set(leases) & set(pins):
                needed[behind] = needed[before] + 1
                waiting.append(behind)
    return needed


def plain_are_rounds(fleet, pins, one, other, thing):
    """Whether a value is a tuple of rounds that leads from one plan to another, by its definition."""
    if type(thing) is not tuple:
        return False
    plan = one
    for leases in thing:
        right = {repr(told): behind for told, behind in plain_rounds(fleet, plan).items() if not set(told) & set(pins)}
        if repr(leases) not in right:
            return False
        plan = right[repr(leases)]
    return plan == other


def plain_row(before, thing):
    """Whether a value is a row of differences, each of which precedes the next one, by its definition."""
    right = {repr(item): item for item in before}
    if type(thing) is not tuple or not all(repr(part) in right for part in thing):
        return False
    return all(x in before[y] for x, y in zip(thing, thing[1:]))


class Rounds(unittest.TestCase):

    def test_pairs_of_plans(self):
        chosen = random.Random(91)
        found = {True: 0, False: 0}
        for seed, fleet in enumerate(SMALL_FLEETS):
            for one, other in helper.pairs_of_plans(fleet, 40, seed):
                for pins in ((), helper.drawn_part(chosen, helper.later_leases(fleet))):
                    fewest = plain_fewest(fleet, pins, one).get(other)
                    found[fewest is None] += 1
                    self.check_pair(fleet, pins, one, other, fewest)
        self.assertGreater(min(found.values()), 50)

    def check_pair(self, fleet, pins, one, other, fewest):
        if fewest is None:
            lease = barring(fleet, pins, one, other)[0]
            check_raised(self, NoWay(lease), rounds_to, fleet, pins, one, other)
            rounds = rounds_to(fleet, (), one, other)
            check(self, False, are_rounds, fleet, pins, one, other, rounds)
        else:
            rounds = called(self, rounds_to, fleet, pins, one, other)
            self.assertEqual(len(rounds), fewest)
            self.assertTrue(plain_are_rounds(fleet, pins, one, other, rounds), rounds)
            check(self, True, are_rounds, fleet, pins, one, other, rounds)
            script = script_to(fleet, pins, one, other)
            check(self, True, are_rounds, fleet, pins, one, other, tuple((lease,) for lease in script))
        fewest = plain_fewest(fleet, (), one)[other]
        check(self, fewest, fewest_rounds, fleet, one, other)
        row = called(self, longest_row, fleet, one, other)
        self.assertEqual(len(row), fewest)
        self.assertTrue(plain_row(helper.plain_preceding(fleet, one, other), row))
        check(self, True, is_row, fleet, one, other, row)

    def test_each_way_by_rounds(self):
        for fleet in (helper.SMALL, helper.SOME, (("a", "b"), (2, 0), ("b", "a", "a"))):
            for one in helper.plain_plans(fleet)[::3]:
                for first, middle in plain_rounds(fleet, one).items():
                    for second, other in plain_rounds(fleet, middle).items():
                        self.assertIs(are_rounds(fleet, (), one, other, (first, second)), True)
                        self.assertIs(are_rounds(fleet, (), one, middle, (first, second)), middle == other)
                        self.assertIs(are_rounds(fleet, first, one, other, (first, second)), False)
                        self.assertIs(are_rounds(fleet, second[:1], one, other, (first, second)), False)

    def test_equal_plans_and_no_restarts(self):
        for fleet in (*SMALL_FLEETS, helper.LARGE):
            for plan in ((), tuple(range(len(fleet[2])))):
                check(self, (), rounds_to, fleet, helper.later_leases(fleet), plan, plan)
                check(self, True, are_rounds, fleet, helper.later_leases(fleet), plan, plan, ())
                check(self, 0, fewest_rounds, fleet, plan, plan)
                check(self, (), longest_row, fleet, plan, plan)
                check(self, True, is_row, fleet, plan, plan, ())
        check(self, False, are_rounds, helper.SMALL, (), (), (0,), ())

    def test_two_leases_of_one_service_in_one_round(self):
        fleet = (("a",), (0,), ("a",) * 6)
        every = tuple(range(6))
        check(self, ((("a", 1), ("a", 3), ("a", 5)),), rounds_to, fleet, (), (), every)
        check(self, 1, fewest_rounds, fleet, (), every)
        check(self, True, are_rounds, fleet, (), (), every, ((("a", 1), ("a", 3), ("a", 5)),))
        check(self, True, are_rounds, fleet, (), (), (0, 2), ((("a", 1), ("a", 2)),))
        check_raised(self, NoWay(("a", 3)), rounds_to, fleet, (("a", 2), ("a", 3), ("a", 5)), (), every)

    def test_rounds_that_are_none(self):
        a1, a3, b2 = ("a", 1), ("a", 3), ("b", 2)
        rows = [
            (((a1, a3),), (0,), True), (((a3, a1),), (0,), False), (((a1,), (a3,)), (0,), True),
            (((a1, a1),), (), False), (((a1,), (a1,)), (), True), (((a1, b2),), (0, 1), False),
            (((a3, b2),), (1, 2), False), ((a1, a3), (0,), False), (((a1, a3), ()), (0,), False), (((),), (), False),
            (((a1,), (b2,), (a3,)), (0, 1), False), (((a1, a3), (b2,)), (0, 1), True), (((("a", 0),),), (), False),
            (((("a", 2),),), (), False), (((a1, a3), (b2,), (a3,)), (0, 1, 2), True),
            (((a1, a3), (b2,), (a3, b2)), (0, 2), False), ([(a1, a3)], (0,), False), (([a1, a3],), (0,), False),
        ]
        for thing, other, expected in rows:
            check(self, expected, are_rounds, helper.SMALL, (), (), other, thing)
            self.assertIs(plain_are_rounds(helper.SMALL, (), (), other, thing), expected)

    def test_values_that_are_no_rounds(self):
        chosen = random.Random(92)
        rows = ((helper.SMALL, (), (), (0, 1)), (helper.SMALL, (("a", 3),), (0, 2), ()), (helper.ALONE, (), (), ()),
                (helper.SOME, (), (0, 1), (1, 2)), (helper.SMALL, (("a", 3),), (), (0, 1)))
        for fleet, pins, one, other in rows:
            rounds = rounds_to(fleet, (), one, other)
            things = [*helper.every_kind(), rounds[::-1], rounds * 2, script_to(fleet, (), one, other), other]
            things += helper.otherwise(rounds)
            things += helper.twice_otherwise(rounds, 100, chosen.random())
            for thing in things:
                expected = plain_are_rounds(fleet, pins, one, other, thing)
                check(self, expected, are_rounds, fleet, pins, one, other, thing)

    def test_far_apart(self):
        for fleet, one, other in helper.FAR:
            rounds = helper.quick(self, rounds_to, fleet, (), one, other)
            self.assertIs(helper.quick(self, are_rounds, fleet, (), one, other, rounds), True)
            self.assertEqual(helper.quick(self, fewest_rounds, fleet, one, other), len(rounds))
            row = helper.quick(self, longest_row, fleet, one, other)
            self.assertEqual(len(row), len(rounds))
            self.assertIs(helper.quick(self, is_row, fleet, one, other, row), True)
            self.assertIs(helper.quick(self, is_row, fleet, one, other, row[::2]), True)
            self.assertIs(helper.quick(self, is_row, fleet, one, other, row[::-1]), False)
            single = tuple((lease,) for lease in script_to(fleet, (), one, other))
            self.assertIs(helper.quick(self, are_rounds, fleet, (), one, other, single), True)
            self.assertIs(helper.quick(self, are_rounds, fleet, (), one, other, single[1:]), False)
            pins = helper.later_leases(fleet)
            barred = barring(fleet, pins, one, other)
            self.assertEqual(helper.quick(self, rounds_to, fleet, pins, one, other).lease, barred[0])


class Rows(unittest.TestCase):

    def test_all_short_rows(self):
        for seed, fleet in enumerate(SMALL_FLEETS):
            for one, other in helper.pairs_of_plans(fleet, 12, seed):
                before = helper.plain_preceding(fleet, one, other)
                for many in range(3 if len(before) > 6 else 4):
                    for row in itertools.product(before, repeat=many):
                        self.assertIs(is_row(fleet, one, other, row), plain_row(before, row))

    def test_no_row_is_longer(self):
        for seed, fleet in enumerate(SMALL_FLEETS):
            for one, other in helper.pairs_of_plans(fleet, 40, seed):
                before = helper.plain_preceding(fleet, one, other)
                depth = {}
                for item in sorted(before, key=lambda told: len(before[told])):
                    depth[item] = 1 + max((depth[other] for other in before[item]), default=0)
                self.assertEqual(len(longest_row(fleet, one, other)), max(depth.values(), default=0))

    def test_a_row_may_leave_out_some_and_begin_anywhere(self):
        lot = differences(helper.SMALL, (), (0, 1, 2))
        first, last, middle = lot[0], lot[2], lot[3]
        for row in ((first, middle, last), (first, last), (middle, last), (first,), (last,), ()):
            check(self, True, is_row, helper.SMALL, (), (0, 1, 2), row)
        for row in ((last, first), (first, first), (first, lot[1]), (first, middle, middle), [first, middle]):
            check(self, False, is_row, helper.SMALL, (), (0, 1, 2), row)

    def test_values_that_are_no_rows(self):
        chosen = random.Random(93)
        for fleet, one, other in ((helper.SMALL, (), (0, 1)), (helper.SOME, (0, 1), (1, 2)), (helper.ALONE, (), ())):
            before = helper.plain_preceding(fleet, one, other)
            row, lot = longest_row(fleet, one, other), differences(fleet, one, other)
            strange = (("a", 0), ((), "a"))
            things = [*helper.every_kind(), lot, *lot, row[::-1], (strange,), (*row, strange), (strange, *row),
                      differences(fleet, other, one), differences(fleet, (), tuple(range(len(fleet[2]))))]
            things += helper.otherwise(row)
            things += helper.twice_otherwise(row, 100, chosen.random())
            for thing in things:
                check(self, plain_row(before, thing), is_row, fleet, one, other, thing)


if __name__ == "__main__":
    unittest.main()
