"""[34], [5] and [6] cheapest plans: measured by going through all plans of drawn small fleets."""

import itertools
import random
import unittest

import helper
from helper import called, check, check_raised
from sparehop.apart import distance
from sparehop.classes import points
from sparehop.errors import NoGrant, TooMany
from sparehop.heights import cheapest, fewest_opened, heights, is_heights, lowest_price, toll
from sparehop.leading import barring
from sparehop.prices import least_price
from sparehop.wishes import missed

SMALL_FLEETS = (helper.SMALL, helper.ALONE, helper.STILL, helper.SOME, *helper.drawn_fleets(8, 4, 5, 140),
                helper.letters("ababab"), helper.letters("aabcba"))
PRICES = {("b", 2): 7, ("a", 3): 2, ("a", 0): 0, ("b", 0): 0, ("a", 1): 5}
EMPTY, MOVED = ("spare", 0, 1, 2), ("on", "b", 3, 2)


def plain_toll(fleet, plan, prices, stretch, word):
    edges = helper.plain_way(helper.plain_vertices(fleet, plan)[stretch], word)
    begun = [lease for lease in helper.plain_leases(fleet) if lease[1] == stretch and stretch > 0]
    return sum(prices[lease] * sum(edge[1] == lease[0] for edge in edges) for lease in begun)


def plain_open_words(fleet, pins, plan, wishes, stretch, words):
    """Those of the words whose points in a stretch are open and suit the wishes."""
    pinned = {lease[0] for lease in helper.plain_leases(fleet)
              if stretch in helper.plain_stretches(fleet, lease) and (lease[1] == 0 or lease in pins)}
    vertex = helper.plain_vertices(fleet, plan)[stretch]
    return [word for word in words if not {edge[1] for edge in helper.plain_way(vertex, word)} & pinned
            and helper.plain_suits(fleet, wishes, stretch, word)]


def plain_on(fleet, pins, plan, wishes, point):
    """The points to which a point leads on."""
    k, word = point
    words = [word, helper.plain_reduced((*word, fleet[2][k]))][:1 if ("stay", k) in wishes else 2]
    return [(k + 1, other) for other in plain_open_words(fleet, pins, plan, wishes, k + 1, words)]


def plain_are_heights(fleet, pins, plan, wishes, prices, thing):
    """Whether a value is heights, by the definition, row by row."""
    m = len(fleet[2])
    if type(thing) is not dict or "(0, ())" not in {repr(key) for key in thing}:
        return False
    for key, height in thing.items():
        if type(key) is not tuple or len(key) != 2 or type(key[0]) is not int or not 0 <= key[0] <= m:
            return False
        word = key[1]
        if type(word) is not tuple or not all(type(part) is str and part in fleet[0] for part in word):
            return False
        if any(x == y for x, y in zip(word, word[1:])) or type(height) not in (int, type(None)):
            return False
    for (k, word), height in thing.items():
        paid = plain_toll(fleet, plan, prices, k, word)
        if not plain_open_words(fleet, pins, plan, wishes, k, [word]):
            if height is not None:
                return False
        elif k == m:
            if height is None or height > paid:
                return False
        else:
            behind = plain_on(fleet, pins, plan, wishes, (k, word))
            if any(point not in thing for point in behind):
                return False
            told = [thing[point] for point in behind if thing[point] is not None]
            if told if height is None else any(height > paid + other for other in told):
                return False
    return True


def plain_heights(fleet, pins, plan, wishes, prices):
    """The heights with the least sums, by going through all rows of points."""
    def sums(point):
        paid = plain_toll(fleet, plan, prices, *point)
        if point[0] == len(fleet[2]):
            return [paid]
        return [paid + rest for other in plain_on(fleet, pins, plan, wishes, point) for rest in sums(other)]

    if not helper.plain_suits(fleet, wishes, 0, ()):
        return {(0, ()): None}
    keys = [(0, ())]
    for point in keys:
        if point[0] < len(fleet[2]):
            keys += [other for other in plain_on(fleet, pins, plan, wishes, point) if other not in keys]
    return {point: min(sums(point), default=None) for point in sorted(keys)}


def plain_grants(fleet, plan, wishes):
    return all(helper.plain_granted(fleet, plan, wish) for wish in wishes)


def drawn_cases(many, seed, most=4):
    """Fleets, pins, plans, wishes and prices."""
    chosen = random.Random(seed)
    for fleet in SMALL_FLEETS:
        plans = helper.plain_plans(fleet)
        yield fleet, (), plans[-1], (), helper.drawn_prices(chosen, fleet)
        yield fleet, helper.later_leases(fleet), plans[-1], (), helper.drawn_prices(chosen, fleet)
        for _ in range(many):
            wishes = helper.drawn_wishes(chosen, fleet, most)
            prices = helper.drawn_prices(chosen, fleet, chosen.choice((0, 1, 9, 10 ** 6)))
            yield fleet, helper.drawn_pins(chosen, fleet), chosen.choice(plans), wishes, prices


class Cheapest(unittest.TestCase):

    def test_against_all_plans_of_the_class(self):
        found = {"none": 0, "one": 0, "several": 0, "another": 0}
        for fleet, pins, plan, wishes, prices in drawn_cases(30, 141):
            granting = [other for other in sorted(helper.plain_needed(fleet, pins, plan))
                        if plain_grants(fleet, other, wishes)]
            costs = [sum(prices[lease] * many for lease, many in helper.plain_aparts(fleet, plan, other).items())
                     for other in granting]
            if not granting:
                found["none"] += 1
                check_raised(self, NoGrant(), cheapest, fleet, pins, plan, wishes, prices)
                check(self, None, lowest_price, fleet, pins, plan, wishes, prices)
            else:
                best = granting[costs.index(min(costs))]
                found["several" if costs.count(min(costs)) > 1 else "one"] += 1
                found["another"] += best != plan
                check(self, best, cheapest, fleet, pins, plan, wishes, prices)
                check(self, min(costs), lowest_price, fleet, pins, plan, wishes, prices)
        self.assertGreater(min(found.values()), 20)

    def test_of_several_cheapest_plans_the_least_one(self):
        free = dict.fromkeys(helper.plain_leases(helper.SMALL), 0)
        for plan in helper.plain_plans(helper.SMALL):
            check(self, (), cheapest, helper.SMALL, (), plan, (), free)
            check(self, (0, 1, 2), cheapest, helper.SMALL, (), plan, (("spare", 0, 1, 1), ("spare", 1, 2, 2),
                                                                      ("spare", 2, 3, 3)), free)
            check(self, (0,), cheapest, helper.SMALL, (), plan, (("on", "a", 3, 2),), free)
            check(self, (0, 1), cheapest, helper.SMALL, (), plan, (("on", "b", 3, 0),), free)
            check(self, (1,), cheapest, helper.SMALL, (("a", 3),), (1,), (MOVED,), free)
        fleet = helper.letters("a" * 12)
        free = dict.fromkeys(helper.plain_leases(fleet), 0)
        check(self, (0, 1, 2, 3, 4, 5, 6, 7, 8, 9, 10, 11), cheapest, fleet, (), (3,), (("on", "a", 1, 1),
              ("on", "a", 2, 0), ("on", "a", 11, 1), ("on", "a", 12, 0)), free)
        check(self, (0,), cheapest, fleet, (), (3,), (("on", "a", 1, 1), ("on", "a", 12, 1)), free)

    def test_wishes_that_none_grants(self):
        prices = dict.fromkeys(helper.plain_leases(helper.SMALL), 1)
        nobody = (("off", "a", 0, 0),)
        nowhere = (("on", "a", 1, 1),)
        barred = (("on", "a", 3, 2),)
        for wishes in (nobody, nowhere, barred, (("stay", 0), ("spare", 0, 1, 1)), (EMPTY, MOVED)):
            check_raised(self, NoGrant(), cheapest, helper.SMALL, (("a", 3),), (), wishes, prices)
            check(self, None, lowest_price, helper.SMALL, (("a", 3),), (), wishes, prices)
        for wishes in (nobody, nowhere):
            check_raised(self, NoGrant(), fewest_opened, helper.SMALL, (("a", 3),), (), wishes)
            self.assertIsNone(heights(helper.SMALL, (), (), wishes, prices)[(0, ())])
        check(self, ((("a", 3),), (0,)), fewest_opened, helper.SMALL, (("a", 3),), (), barred)
        check(self, {(0, ()): None}, heights, helper.SMALL, (), (), nobody, prices)
        check(self, {(0, ()): None}, heights, helper.STILL, (), (), (("spare", 2, 0, 0),),
              dict.fromkeys(helper.plain_leases(helper.STILL), 1))

    def test_without_wishes_each_plan_stays_as_it_is(self):
        chosen = random.Random(142)
        for fleet in SMALL_FLEETS:
            for plan in helper.plain_plans(fleet)[::5]:
                prices = {lease: 1 + price for lease, price in helper.drawn_prices(chosen, fleet).items()}
                pins = helper.drawn_pins(chosen, fleet)
                check(self, plan, cheapest, fleet, pins, plan, (), prices)
                check(self, 0, lowest_price, fleet, pins, plan, (), prices)

    def test_forty_wishes(self):
        chosen = random.Random(143)
        granted = 0
        for fleet in SMALL_FLEETS:
            for _ in range(6):
                goal = chosen.choice(helper.plain_plans(fleet))
                told = [wish for wish in helper.every_wish(fleet) if helper.plain_granted(fleet, goal, wish)]
                wishes = tuple(chosen.choice(told) for _ in range(40))
                prices = helper.drawn_prices(chosen, fleet)
                plan = called(self, cheapest, fleet, (), (), wishes, prices)
                self.assertEqual(missed(fleet, plan, wishes), ())
                granting = [one for one in helper.plain_plans(fleet) if plain_grants(fleet, one, wishes)]
                least = min(least_price(fleet, prices, (), one) for one in granting)
                self.assertEqual(least_price(fleet, prices, (), plan), least)
                granted += len(granting) > 1
        self.assertGreater(granted, 5)


class FewestOpened(unittest.TestCase):

    def test_against_all_plans(self):
        found = {}
        for fleet, pins, plan, wishes, _ in drawn_cases(30, 144, 3):
            rows = [(len(barring(fleet, pins, plan, other)), other) for other in helper.plain_plans(fleet)
                    if plain_grants(fleet, other, wishes)]
            if not rows:
                check_raised(self, NoGrant(), fewest_opened, fleet, pins, plan, wishes)
            else:
                many, other = min(rows)
                expected = (barring(fleet, pins, plan, other), other)
                self.assertEqual(len(expected[0]), many)
                check(self, expected, fewest_opened, fleet, pins, plan, wishes)
            found[min(rows)[0] if rows else None] = True
        self.assertGreater(len(found), 3)

    def test_each_pin_counts_once_however_far_the_plans_are_apart(self):
        # The last lease of a can go over the edge with a twice, or over it once with the lease of b pinned, too.
        fleet = helper.letters("abaaba")
        pins = (("a", 6), ("b", 5))
        for wishes in itertools.product([("on", "a", 6, k) for k in range(3)], [("on", "b", 6, k) for k in range(3)]):
            rows = [(len(barring(fleet, pins, (), other)), other) for other in helper.plain_plans(fleet)
                    if plain_grants(fleet, other, wishes)]
            if rows:
                other = min(rows)[1]
                check(self, (barring(fleet, pins, (), other), other), fewest_opened, fleet, pins, (), wishes)

    def test_no_pins_and_no_wishes(self):
        for fleet in SMALL_FLEETS:
            for plan in helper.plain_plans(fleet)[::7]:
                check(self, ((), ()), fewest_opened, fleet, (), plan, ())
                later = helper.later_leases(fleet)
                check(self, ((), plan), fewest_opened, fleet, later, plan, ())


class Heights(unittest.TestCase):

    def test_least_sums(self):
        for fleet, pins, plan, wishes, prices in drawn_cases(12, 145):
            expected = plain_heights(fleet, pins, plan, wishes, prices)
            told = called(self, heights, fleet, pins, plan, wishes, prices)
            self.assertTrue(helper.same(told, expected), (told, expected))
            self.assertEqual(list(told), list(expected))
            check(self, told[(0, ())], lowest_price, fleet, pins, plan, wishes, prices)
            check(self, True, is_heights, fleet, pins, plan, wishes, prices, told)
            helper.check_changeable(self, heights, fleet, pins, plan, wishes, prices)

    def test_tolls(self):
        chosen = random.Random(146)
        for fleet, pins, plan, _, prices in drawn_cases(6, 147):
            for _ in range(6):
                stretch = chosen.randint(0, len(fleet[2]))
                word = helper.drawn_word(chosen, fleet, 7)
                check(self, plain_toll(fleet, plan, prices, stretch, word), toll, fleet, plan, prices, stretch, word)
            for other in helper.plain_plans(fleet)[::4]:
                tolls = [toll(fleet, plan, prices, k, w) for k, w in enumerate(helper.plain_vertices(fleet, other))]
                self.assertEqual(sum(tolls), least_price(fleet, prices, plan, other))

    def test_whatever_heights_are_taken_no_plan_has_a_lower_price(self):
        chosen = random.Random(148)
        found = {True: 0, False: 0}
        for fleet, pins, plan, wishes, prices in drawn_cases(12, 149, 2):
            told = heights(fleet, pins, plan, wishes, prices)
            granting = [other for other in helper.plain_needed(fleet, pins, plan) if plain_grants(fleet, other, wishes)]
            least = min([least_price(fleet, prices, plan, other) for other in granting], default=None)
            self.assertEqual(told[(0, ())], least)
            for _ in range(20):
                thing = dict(told)
                for key in chosen.sample(list(thing), chosen.randint(1, min(3, len(thing)))):
                    change = chosen.choice([-1, 1, -5, None])
                    height = thing[key]
                    thing[key] = None if change is None else (height or 0) + change
                taken = is_heights(fleet, pins, plan, wishes, prices, thing)
                self.assertIs(taken, plain_are_heights(fleet, pins, plan, wishes, prices, thing))
                found[taken] += 1
                if taken and thing[(0, ())] is None:
                    self.assertIsNone(least)
                elif taken and least is not None:
                    self.assertLessEqual(thing[(0, ())], least)
        self.assertGreater(min(found.values()), 200)

    def test_heights_that_are_lower_or_have_more_points(self):
        told = heights(helper.SMALL, (("a", 3),), (), (EMPTY,), PRICES)
        rows = [
            ({}, True), ({(0, ()): 4}, True), ({(0, ()): 6}, False), ({(0, ()): None}, False), ({(3, ()): -1}, False),
            ({(0, ()): -10 ** 39, (3, ()): -7, (2, ("a",)): -7, (1, ("a",)): -2}, True),
            ({(1, ("a",)): 6}, False), ({(3, ()): 1}, False), ({(3, ()): None}, False), ({(0, ()): True}, False),
            ({(0, ()): 5, (1, ("a",)): 5, (2, ("a",)): 0, (3, ()): False}, False),
            ({(1, ()): None}, True), ({(1, ()): 0}, False), ({(3, ("b",)): 0}, True), ({(3, ("b",)): None}, False),
            ({(3, ("a",)): None}, True), ({(3, ("a",)): 0}, False), ({(2, ("b",)): None}, True),
            ({(2, ("b", "a")): None}, False), ({(2, ("b", "a")): 0}, False), ({(2, ("b", "a")): 8, (3, ("b",)): 0}, False),
            ({(2, ("b", "a")): 7, (3, ("b",)): 0}, True), ({(2, ("b", "a")): None, (3, ("b",)): 0}, False), ({(0, ("a",)): None}, True),
            ({(0, ("a",)): 0}, False), ({(4, ()): None}, False), ({(-1, ()): None}, False), ({(2, ("a", "a")): None}, False),
            ({(2, ("c",)): None}, False), ({(True, ()): None}, False), ({(2, "a"): None}, False), ({(2,): None}, False),
            ({None: None}, False), ({(2, ("b", "a", "b", "a", "b")): None}, True),
        ]
        for more, expected in rows:
            thing = {**told, **more}
            self.assertIs(plain_are_heights(helper.SMALL, (("a", 3),), (), (EMPTY,), PRICES, thing), expected, more)
            check(self, expected, is_heights, helper.SMALL, (("a", 3),), (), (EMPTY,), PRICES, thing)
            shuffled = dict(reversed(list(thing.items())))
            check(self, expected, is_heights, helper.SMALL, (("a", 3),), (), (EMPTY,), PRICES, shuffled)

    def test_truths_in_keys(self):
        told = heights(helper.SMALL, (), (), (), PRICES)
        for key in told:
            rest = {other: height for other, height in told.items() if other != key}
            check(self, False, is_heights, helper.SMALL, (), (), (), PRICES, {**rest, (False, ()): told[key]})
            if key[0] == 1:
                check(self, False, is_heights, helper.SMALL, (), (), (), PRICES, {**rest, (True, key[1]): told[key]})

    def test_values_that_are_no_heights(self):
        chosen = random.Random(150)
        cases = [(helper.SMALL, (("a", 3),), (), (EMPTY,), PRICES), (helper.SMALL, (("a", 3),), (), (EMPTY, MOVED), PRICES),
                 (helper.SMALL, (), (0, 2), (("stay", 1),), PRICES), (helper.SMALL, (), (), (("off", "a", 0, 0),), PRICES),
                 (helper.ALONE, (), (), (), {("a", 0): 3}), (helper.ALONE, (), (), (("spare", 1, 0, 0),), {("a", 0): 3})]
        for fleet, pins, plan, wishes, prices in cases:
            told = heights(fleet, pins, plan, wishes, prices)
            things = [*helper.every_kind(), *helper.otherwise(told), *helper.twice_otherwise(told, 150, chosen.random())]
            things += [{**told, key: None} for key in ((0, ()), (1, ()), (3, ("a",)), (True, ()), (0, ("zz",)), (9, ()))]
            for thing in things:
                expected = plain_are_heights(fleet, pins, plan, wishes, prices, thing)
                check(self, expected, is_heights, fleet, pins, plan, wishes, prices, thing)

    def test_no_restarts(self):
        prices = dict.fromkeys(helper.plain_leases(helper.STILL), 10 ** 6)
        check(self, {(0, ()): 0}, heights, helper.STILL, (), (), (("spare", 1, 0, 0),), prices)
        check(self, (), cheapest, helper.STILL, (), (), (("spare", 1, 0, 0),), prices)
        check(self, ((), ()), fewest_opened, helper.STILL, (), (), (("spare", 1, 0, 0),))
        for height, expected in ((0, True), (-1, True), (1, False), (None, False)):
            check(self, expected, is_heights, helper.STILL, (), (), (), prices, {(0, ()): height})
        for height, expected in ((0, False), (None, True)):
            check(self, expected, is_heights, helper.STILL, (), (), (("spare", 2, 0, 0),), prices, {(0, ()): height})

    def test_the_order_of_the_keys_of_prices_does_not_matter(self):
        for order in itertools.permutations(PRICES.items()):
            prices = dict(order)
            check(self, (0, 2), cheapest, helper.SMALL, (("a", 3),), (), (EMPTY,), prices)
            self.assertEqual(lowest_price(helper.SMALL, (("a", 3),), (), (EMPTY,), prices), 5)


class ManyPoints(unittest.TestCase):

    def test_too_many_points_even_if_fewer_have_to_be_looked_at(self):
        nobody = (("off", "a", 0, 0),)
        stay = tuple(("stay", number) for number in range(13))
        for fleet, pins in (helper.ONE_TOO_MANY, (helper.MORE_POINTS, ()), (helper.LARGE, ())):
            prices = dict.fromkeys(helper.plain_leases(fleet), 1)
            for wishes in ((), nobody, stay):
                for function in (heights, cheapest, lowest_price):
                    helper.quick(self, function, fleet, pins, (), wishes, prices)
                    check_raised(self, TooMany(4000), function, fleet, pins, (), wishes, prices)
                check_raised(self, TooMany(4000), fewest_opened, fleet, pins, (), wishes)
                check_raised(self, TooMany(4000), fewest_opened, fleet, helper.later_leases(fleet), (), wishes)
                check(self, False, is_heights, fleet, pins, (), wishes, prices, {(0, ()): 1})

    def test_just_as_many_points_as_may_be(self):
        chosen = random.Random(151)
        for fleet, pins in (helper.JUST_ENOUGH, (helper.FEWER_POINTS, ())):
            prices = helper.drawn_prices(chosen, fleet, 10 ** 6)
            goal = tuple(range(1, len(fleet[2]), 2))
            last = helper.plain_courses(fleet, goal)[-1][0]
            wishes = tuple(("on", service, len(fleet[2]), machine) for service, machine in last.items())
            told = helper.quick(self, heights, fleet, pins, (), (), prices)
            self.assertEqual([key for key in told], [(k, word) for k, row in enumerate(points(fleet, pins, ()))
                                                     for word in row])
            self.assertIs(helper.quick(self, is_heights, fleet, pins, (), (), prices, told), True)
            told = helper.quick(self, heights, fleet, pins, (), wishes, prices)
            self.assertIs(helper.quick(self, is_heights, fleet, pins, (), wishes, prices, told), True)
            told[(0, ())] += 1
            self.assertIs(helper.quick(self, is_heights, fleet, pins, (), wishes, prices, told), False)
            plan = helper.quick(self, cheapest, fleet, pins, (), wishes, prices)
            self.assertEqual(missed(fleet, plan, wishes), ())
            self.assertEqual(least_price(fleet, prices, (), plan), told[(0, ())] - 1)
            self.assertLessEqual(told[(0, ())] - 1, least_price(fleet, prices, (), goal))
        fleet, pins = helper.FEWER_POINTS, helper.later_leases(helper.FEWER_POINTS)
        opened, other = helper.quick(self, fewest_opened, fleet, pins, (), wishes[:len(fleet[0])])
        self.assertEqual(missed(fleet, other, wishes), ())
        self.assertEqual(opened, barring(fleet, pins, (), other))

    def test_long_fleets(self):
        fleet = helper.letters("ab" * 30)
        chosen = random.Random(152)
        for _ in range(4):
            goal = helper.drawn_part(chosen, range(60))
            courses = helper.plain_courses(fleet, goal)
            wishes = tuple(("spare", courses[k][1], k, k) for k in sorted(chosen.sample(range(61), 40)))
            ones = dict.fromkeys(helper.plain_leases(fleet), 1)
            plan = helper.quick(self, cheapest, fleet, (), (), wishes, ones)
            self.assertEqual(missed(fleet, plan, wishes), ())
            price = helper.quick(self, lowest_price, fleet, (), (), wishes, ones)
            self.assertEqual(distance(fleet, (), plan), price)
            self.assertLessEqual(price, distance(fleet, (), goal))
            free = dict.fromkeys(ones, 0)
            self.assertEqual(lowest_price(fleet, (), (), wishes, free), 0)
            self.assertLessEqual(helper.quick(self, cheapest, fleet, (), (), wishes, free), goal)
            pins = helper.later_leases(fleet)
            opened, other = helper.quick(self, fewest_opened, fleet, pins, goal, wishes)
            self.assertEqual((opened, missed(fleet, other, wishes)), ((), ()))
            self.assertEqual(other, goal)


if __name__ == "__main__":
    unittest.main()
