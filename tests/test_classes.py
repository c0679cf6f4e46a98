"""[31] and [5] classes counted: measured by going through the classes by edits, and through all rows of points."""

import functools
import random
import unittest

import helper
from helper import called, check, check_raised
from sparehop.classes import (
    frozen, hop_counts, machine_counts, many_plans, points, spare_counts, ways_on, ways_to,
)
from sparehop.errors import TooMany
from sparehop.leading import class_of

SMALL_FLEETS = (helper.SMALL, helper.ALONE, helper.STILL, helper.SOME, *helper.drawn_fleets(8, 4, 6, 110),
                helper.letters("abababa"), helper.letters("abcabac"), helper.letters("aabcbaab"))
COUNTS = (points, ways_on, ways_to, many_plans, hop_counts, frozen)


def plain_is_open(fleet, pins, plan, stretch, word):
    """Whether a point is open, by the definition."""
    pinned = {lease[0] for lease in helper.plain_leases(fleet)
              if stretch in helper.plain_stretches(fleet, lease) and (lease[1] == 0 or lease in pins)}
    return not {edge[1] for edge in helper.plain_way(helper.plain_vertices(fleet, plan)[stretch], word)} & pinned


def plain_led_to(fleet, stretch, word):
    return [word, helper.plain_reduced((*word, fleet[2][stretch]))]


@functools.lru_cache(maxsize=None)
def plain_points(fleet, pins, plan):
    """For each stretch the set of the words of the met points."""
    rows = [{()}]
    for k in range(len(fleet[2])):
        rows.append({other for word in rows[k] for other in plain_led_to(fleet, k, word)
                     if plain_is_open(fleet, pins, plan, k + 1, other)})
    return rows


def plain_rows(fleet, pins, plan, stretch, word):
    """All rows of open points from a met point to the last stretch, as tuples of words."""
    if stretch == len(fleet[2]):
        return [(word,)]
    behind = [other for other in plain_led_to(fleet, stretch, word)
              if other in plain_points(fleet, pins, plan)[stretch + 1]]
    return [(word, *row) for other in behind for row in plain_rows(fleet, pins, plan, stretch + 1, other)]


def counted(items):
    return {item: items.count(item) for item in sorted(set(items))}


def drawn_classes(many, seed):
    """Fleets, pins and plans: none pinned, some, all, and those of which many are."""
    chosen = random.Random(seed)
    for fleet in SMALL_FLEETS:
        plans = helper.plain_plans(fleet)
        later = helper.later_leases(fleet)
        yield fleet, (), ()
        yield fleet, later, plans[-1]
        for _ in range(many):
            yield fleet, helper.drawn_pins(chosen, fleet), chosen.choice(plans)


class Points(unittest.TestCase):

    def test_met_points_and_rows(self):
        for fleet, pins, plan in drawn_classes(8, 111):
            met = plain_points(fleet, pins, plan)
            told = called(self, points, fleet, pins, plan)
            self.assertTrue(helper.same(told, [tuple(sorted(words)) for words in met]))
            rows = plain_rows(fleet, pins, plan, 0, ())
            on = [{word: len(plain_rows(fleet, pins, plan, k, word)) for word in sorted(met[k])} for k in range(len(met))]
            self.check_dicts(on, ways_on, fleet, pins, plan)
            to = [{word: 0 for word in sorted(words)} for words in met]
            beginnings = {row[:k] for row in self.all_beginnings(fleet, met) for k in range(1, len(met) + 1)}
            for row in beginnings:
                to[len(row) - 1][row[-1]] += 1
            self.check_dicts(to, ways_to, fleet, pins, plan)
            self.assertEqual(many_plans(fleet, pins, plan), len(rows))

    def all_beginnings(self, fleet, met):
        """All rows of met points from the first one that cannot be longer."""
        rows, ended = [((),)], []
        while rows:
            row = rows.pop()
            k = len(row) - 1
            behind = [w for w in plain_led_to(fleet, k, row[-1]) if w in met[k + 1]] if k + 1 < len(met) else []
            rows += [(*row, word) for word in behind]
            ended += [] if behind else [row]
        return ended

    def check_dicts(self, expected, function, *arguments):
        check(self, expected, function, *arguments)
        self.assertEqual(helper.order_of_keys(function(*arguments)), helper.order_of_keys(expected))
        helper.check_changeable(self, function, *arguments)

    def test_points_from_which_no_way_on_is_open(self):
        found = 0
        for fleet, pins, plan in drawn_classes(8, 112):
            on, to = ways_on(fleet, pins, plan), ways_to(fleet, pins, plan)
            found += sum(many == 0 for row in on for many in row.values())
            self.assertTrue(all(many > 0 for row in to for many in row.values()))
        self.assertGreater(found, 20)
        self.assertEqual(ways_on(helper.SMALL, (("a", 3),), ())[2], {(): 1, ("a",): 1, ("a", "b"): 0, ("b",): 1})

    def test_all_pinned_and_no_restarts(self):
        for fleet in (*SMALL_FLEETS, helper.LARGE, helper.LONGEST):
            later = helper.later_leases(fleet)
            for plan in ((), tuple(range(len(fleet[2]))), tuple(range(0, len(fleet[2]), 3))):
                vertices = helper.plain_vertices(fleet, plan)
                check(self, 1, many_plans, fleet, later, plan)
                check(self, [(word,) for word in vertices], points, fleet, later, plan)
                check(self, [{word: 1} for word in vertices], ways_on, fleet, later, plan)
                check(self, [{word: 1} for word in vertices], ways_to, fleet, later, plan)
                check(self, tuple(helper.plain_leases(fleet)), frozen, fleet, later, plan)
                check(self, tuple(int(j in plan) for j in range(len(fleet[2]))), hop_counts, fleet, later, plan)
        check(self, [((),)], points, helper.STILL, (), ())
        check(self, [{(): 1}], ways_on, helper.STILL, (), ())
        check(self, {3: 1}, machine_counts, helper.STILL, (), (), ("ab", 0))
        check(self, {1: 1}, spare_counts, helper.STILL, (), (), 0)
        check(self, (), hop_counts, helper.STILL, (), ())


class Counts(unittest.TestCase):

    def test_against_going_through_the_class(self):
        sizes = set()
        for fleet, pins, plan in drawn_classes(8, 113):
            plans = sorted(helper.plain_needed(fleet, pins, plan))
            sizes.add(len(plans))
            check(self, len(plans), many_plans, fleet, pins, plan)
            courses = [helper.plain_courses(fleet, other) for other in plans]
            still = []
            for lease in helper.plain_leases(fleet):
                machines = [rows[lease[1]][0][lease[0]] for rows in courses]
                self.check_counts(counted(machines), machine_counts, fleet, pins, plan, lease)
                still += [lease] if len(set(machines)) == 1 else []
            check(self, tuple(still), frozen, fleet, pins, plan)
            edits = {lease for other in plans for lease in helper.plain_graph(fleet)[other] if lease not in pins}
            self.assertEqual(set(still), set(helper.plain_leases(fleet)) - edits)
            for k in range(len(fleet[2]) + 1):
                self.check_counts(counted([rows[k][1] for rows in courses]), spare_counts, fleet, pins, plan, k)
            hops = tuple(sum(j in other for other in plans) for j in range(len(fleet[2])))
            check(self, hops, hop_counts, fleet, pins, plan)
        self.assertGreater(len(sizes), 10)

    def check_counts(self, expected, function, *arguments):
        check(self, expected, function, *arguments)
        self.assertEqual(list(function(*arguments)), list(expected))
        helper.check_changeable(self, function, *arguments)

    def test_all_plans_of_a_class_have_the_same_counts(self):
        for fleet, pins, plan in drawn_classes(2, 114):
            for other in sorted(helper.plain_needed(fleet, pins, plan))[::5]:
                for function in COUNTS:
                    self.assertTrue(helper.same(function(fleet, pins, plan), function(fleet, pins, other)))

    def test_large_classes(self):
        chosen = random.Random(115)
        found = 0
        for fleet in helper.drawn_fleets(60, 3, 15, 116):
            pins = helper.drawn_pins(chosen, fleet)
            plan = helper.drawn_part(chosen, range(len(fleet[2])))
            kind, plans = helper.outcome(class_of, (fleet, pins, plan))
            if kind == "returned":
                found += len(plans) > 100
                self.assertEqual(many_plans(fleet, pins, plan), len(plans))
                hops = [sum(j in other for other in plans) for j in range(len(fleet[2]))]
                self.assertEqual(list(hop_counts(fleet, pins, plan)), hops)
        self.assertGreater(found, 5)

    def test_so_many_that_none_goes_through_them(self):
        fleet = helper.LONGEST
        half = 2 ** 59
        for plan in ((), tuple(range(60)), (3, 7)):
            self.assertEqual(helper.quick(self, many_plans, fleet, (), plan), 2 * half)
            self.assertEqual(helper.quick(self, hop_counts, fleet, (), plan), (half,) * 60)
            self.assertEqual(helper.quick(self, machine_counts, fleet, (), plan, ("a", 60)), {0: half, 1: half})
            self.assertEqual(helper.quick(self, spare_counts, fleet, (), plan, 30), {0: half, 1: half})
            self.assertEqual(helper.quick(self, frozen, fleet, (), plan), (("a", 0),))
            self.assertEqual(helper.quick(self, points, fleet, (), plan), [((),), *([((), ("a",))] * 60)])
            self.assertEqual(helper.quick(self, ways_to, fleet, (), plan)[60], {(): half, ("a",): half})
        pins = tuple(lease for lease in helper.later_leases(fleet) if lease[1] % 2)
        self.assertEqual(many_plans(fleet, pins, (5,)), 2 ** 30)
        fleet = helper.letters("ab" * 30)
        self.assertEqual(helper.quick(self, many_plans, fleet, (), tuple(range(60))), 2 ** 60)


class TooManyPoints(unittest.TestCase):

    def test_exactly_four_thousand_points_and_more(self):
        for fleet, pins in ((helper.FEWER_POINTS, ()), helper.JUST_ENOUGH):
            for plan in ((), (0, 2, 5)):
                told = helper.quick(self, points, fleet, pins, plan)
                expected = plain_points(fleet, pins, plan)
                self.assertEqual(told, [tuple(sorted(words)) for words in expected])
        self.assertEqual(sum(map(len, points(*helper.JUST_ENOUGH, ()))), 4000)
        self.assertEqual(sum(map(len, points(helper.FEWER_POINTS, (), ()))), 3999)
        self.assertEqual(sum(map(len, plain_points(*helper.ONE_TOO_MANY, ()))), 4001)
        self.assertEqual(sum(map(len, plain_points(helper.MORE_POINTS, (), ()))), 4001)
        for fleet, pins in (helper.ONE_TOO_MANY, (helper.MORE_POINTS, ()), (helper.LARGE, ())):
            for plan in ((), (0, 2, 5)):
                for function in COUNTS:
                    helper.quick(self, function, fleet, pins, plan)
                    check_raised(self, TooMany(4000), function, fleet, pins, plan)
                for lease in (helper.plain_leases(fleet)[0], helper.plain_leases(fleet)[-1]):
                    check_raised(self, TooMany(4000), machine_counts, fleet, pins, plan, lease)
                for stretch in (0, len(fleet[2])):
                    check_raised(self, TooMany(4000), spare_counts, fleet, pins, plan, stretch)

    def test_four_thousand_points_are_counted(self):
        fleet, pins = helper.JUST_ENOUGH
        self.assertEqual(many_plans(fleet, pins, ()), 2 ** len(helper.FEWER_POINTS[2]))
        self.assertEqual(set(hop_counts(fleet, pins, ())), {0, 2 ** (len(helper.FEWER_POINTS[2]) - 1)})
        self.assertEqual(len(helper.quick(self, ways_on, fleet, pins, ())), len(fleet[2]) + 1)
        self.assertEqual(len(helper.quick(self, ways_to, fleet, pins, ())), len(fleet[2]) + 1)
        self.assertEqual(sum(helper.quick(self, machine_counts, fleet, pins, (), ("a", 2)).values()), 2 ** 16)
        self.assertEqual(sum(helper.quick(self, spare_counts, fleet, pins, (), 17).values()), 2 ** 16)
        self.assertEqual(helper.quick(self, frozen, fleet, pins, ())[-1], ("zz", 1))


if __name__ == "__main__":
    unittest.main()
