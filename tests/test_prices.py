"""[25] and [6] prices: measured by the cheapest ways through the classes, edit by edit."""

import random
import unittest

import helper
from helper import called, check
from sparehop.leading import script_to
from sparehop.prices import edits_by_lease, is_cheapest_script, least_price, price_of

SMALL_FLEETS = (helper.SMALL, helper.ALONE, helper.STILL, helper.SOME, *helper.drawn_fleets(8, 4, 5, 70))


def plain_cheapest(fleet, pins, prices, one):
    """The dict from the plans of a class to the least price of a script to them, by going along edits."""
    least, waiting = {one: 0}, [one]
    while waiting:
        before = waiting.pop()
        for lease, behind in helper.plain_graph(fleet)[before].items():
            price = least[before] + prices[lease]
            if lease not in pins and price < least.get(behind, price + 1):
                least[behind] = price
                waiting.append(behind)
    return least


class Prices(unittest.TestCase):

    def test_each_shortest_script_is_a_cheapest_one(self):
        chosen = random.Random(71)
        for fleet in SMALL_FLEETS:
            for one in helper.plain_plans(fleet)[::3]:
                pins = helper.drawn_part(chosen, helper.later_leases(fleet))
                for prices in (helper.drawn_prices(chosen, fleet), helper.drawn_prices(chosen, fleet, 10 ** 6),
                               dict.fromkeys(helper.plain_leases(fleet), 0)):
                    for other, price in plain_cheapest(fleet, pins, prices, one).items():
                        check(self, price, least_price, fleet, prices, one, other)
                        script = script_to(fleet, pins, one, other)
                        check(self, price, price_of, prices, script)
                        check(self, True, is_cheapest_script, fleet, pins, prices, one, other, script)

    def test_least_prices_of_plans_to_which_no_script_leads(self):
        prices = {("b", 2): 7, ("a", 0): 1, ("a", 3): 2, ("b", 0): 0, ("a", 1): 5}
        check(self, 14, least_price, helper.SMALL, prices, (), (0, 1))
        script = (("a", 1), ("a", 3), ("b", 2))
        check(self, True, is_cheapest_script, helper.SMALL, (), prices, (), (0, 1), script)
        check(self, False, is_cheapest_script, helper.SMALL, (("a", 3),), prices, (), (0, 1), script)
        check(self, False, is_cheapest_script, helper.SMALL, (), prices, (), (0, 1), script[:2])
        check(self, False, is_cheapest_script, helper.SMALL, (), prices, (), (0,), script)

    def test_prices_of_first_leases_and_of_far_ones_count_for_nothing(self):
        prices = {lease: 10 ** 6 for lease in helper.plain_leases(helper.SMALL)}
        check(self, 3, least_price, helper.SMALL, {**prices, ("a", 1): 1, ("b", 2): 2, ("a", 3): 0}, (), (0, 1))
        check(self, 3 * 10 ** 6, least_price, helper.SMALL, prices, (), (0, 1))

    def test_equal_plans_and_empty_scripts(self):
        chosen = random.Random(72)
        for fleet in (*SMALL_FLEETS, helper.LARGE):
            prices = helper.drawn_prices(chosen, fleet)
            for plan in ((), tuple(range(len(fleet[2])))):
                check(self, 0, least_price, fleet, prices, plan, plan)
                check(self, True, is_cheapest_script, fleet, helper.later_leases(fleet), prices, plan, plan, ())
            check(self, 0, price_of, prices, ())
        check(self, {}, edits_by_lease, ())

    def test_edits_by_lease(self):
        script = (("b", 2), ("a", 3), ("b", 2), ("a", 1), ("b", 0), ("b", 2))
        expected = {("a", 1): 1, ("a", 3): 1, ("b", 0): 1, ("b", 2): 3}
        check(self, expected, edits_by_lease, script)
        self.assertEqual(list(called(self, edits_by_lease, script)), list(expected))
        helper.check_changeable(self, edits_by_lease, script)

    def test_a_lease_is_paid_as_often_as_it_is_edited(self):
        prices = {("a", 0): 0, ("a", 1): 10 ** 6, ("a", 3): 2, ("b", 0): 0, ("b", 2): 0}
        check(self, 2 * 10 ** 6 + 2, price_of, prices, (("a", 1), ("a", 3), ("a", 1), ("b", 2)))

    def test_longer_scripts_whose_further_edits_cost_nothing(self):
        free = {("a", 0): 0, ("a", 1): 5, ("a", 3): 0, ("b", 0): 0, ("b", 2): 7}
        script = (("a", 3), ("a", 1), ("a", 3), ("a", 3))
        check(self, True, is_cheapest_script, helper.SMALL, (), free, (), (0,), script)
        check(self, False, is_cheapest_script, helper.SMALL, (), {**free, ("a", 3): 1}, (), (0,), script)
        check(self, False, is_cheapest_script, helper.SMALL, (), free, (), (0,), (("a", 1), *script, ("a", 1)))
        check(self, True, is_cheapest_script, helper.SMALL, (), free, (), (), (("a", 3), ("a", 3)))

    def test_all_short_scripts(self):
        chosen = random.Random(73)
        for fleet, pins in ((helper.SMALL, ()), (helper.SMALL, (("a", 3),)), ((("a",), (0,), ("a", "a")), ())):
            rows = [()]
            for _ in range(4):
                rows += [(*script, lease) for script in rows for lease in helper.plain_leases(fleet)]
            rows = sorted(set(rows))
            for one in helper.plain_plans(fleet)[::3]:
                prices = helper.drawn_prices(chosen, fleet, 2)
                least = plain_cheapest(fleet, (), prices, one)
                for script in rows:
                    behind = helper.plain_behind(fleet, one, pins, script)
                    for other in helper.plain_plans(fleet)[::4]:
                        price = sum(prices[lease] for lease in script)
                        expected = behind == other and price == least[other]
                        self.assertIs(is_cheapest_script(fleet, pins, prices, one, other, script), expected)

    def test_values_that_are_no_scripts(self):
        chosen = random.Random(74)
        script = (("a", 1), ("a", 3), ("b", 2))
        for prices in (dict.fromkeys(helper.plain_leases(helper.SMALL), 0), helper.drawn_prices(chosen, helper.SMALL)):
            things = [*helper.every_kind(), script[::-1], script * 2, list(script), (0, 1)]
            things += helper.otherwise(script)
            things += helper.twice_otherwise(script, 100, chosen.random())
            for thing in things:
                expected = self.is_cheapest((), prices, (), (0, 1), thing)
                check(self, expected, is_cheapest_script, helper.SMALL, (), prices, (), (0, 1), thing)

    def is_cheapest(self, pins, prices, one, other, thing):
        """Whether a value is a cheapest script in the small fleet, told by its definition."""
        leases = {repr(lease) for lease in helper.plain_leases(helper.SMALL)}
        if type(thing) is not tuple or not all(repr(part) in leases for part in thing):
            return False
        price = sum(prices[lease] for lease in thing)
        least = plain_cheapest(helper.SMALL, (), prices, one)[other]
        return helper.plain_behind(helper.SMALL, one, pins, thing) == other and price == least

    def test_far_apart(self):
        chosen = random.Random(75)
        for fleet, one, other in helper.FAR:
            prices = helper.drawn_prices(chosen, fleet, 10 ** 6)
            script = script_to(fleet, (), one, other)
            least = helper.quick(self, least_price, fleet, prices, one, other)
            self.assertEqual(helper.quick(self, price_of, prices, script), least)
            self.assertEqual(sum(n * prices[x] for x, n in helper.plain_aparts(fleet, one, other).items()), least)
            self.assertIs(helper.quick(self, is_cheapest_script, fleet, (), prices, one, other, script), True)
            self.assertIs(helper.quick(self, is_cheapest_script, fleet, (), prices, one, other, script[1:]), False)
            told = helper.quick(self, edits_by_lease, script)
            self.assertEqual(list(told.items()), sorted((x, script.count(x)) for x in set(script)))


if __name__ == "__main__":
    unittest.main()
