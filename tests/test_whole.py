"""[1], [3] and the guarantees [5] to [9] over the whole program: what its modules say of one another."""

import itertools
import random
import unittest

import helper
from sparehop.apart import apart, distance
from sparehop.between import is_between, plans_between, scripts_many
from sparehop.classes import frozen, many_plans
from sparehop.days import begun_pins, is_timetable, last_stretch, least_most, timetable
from sparehop.desk import Desk
from sparehop.differences import differences
from sparehop.edits import edits_of, run
from sparehop.errors import NoMerge
from sparehop.fleettexts import fleet_text, plan_text
from sparehop.heights import cheapest, fewest_opened, lowest_price
from sparehop.house import House
from sparehop.leading import barring, class_of, fewest_edits, leads, script_to
from sparehop.logs import reopened
from sparehop.medians import median
from sparehop.merges import merged, merged_all, quarrels
from sparehop.numbering import all_plans, number_of
from sparehop.prices import least_price, price_of
from sparehop.restarts import pins_with, plan_with, with_restart
from sparehop.rounds import fewest_rounds, longest_row, rounds_to
from sparehop.tables import is_table, table_of

FLEETS = [helper.letters(text) for text in ("abcabcab", "aabbaabb", "abacabad", "abbcaacb")]


def drawn(seed):
    """Fleets with eight restarts, some pins, and three plans."""
    chosen = random.Random(seed)
    for fleet in FLEETS:
        for _ in range(12):
            yield fleet, helper.drawn_pins(chosen, fleet), *(helper.drawn_part(chosen, range(8)) for _ in range(3))


class Guarantees(unittest.TestCase):

    def test_reached(self):
        for fleet, pins, one, _, _ in drawn(210):
            plans = class_of(fleet, pins, one)
            every = helper.plain_plans(fleet)
            expected = [other for other in every if not any(apart(fleet, one, other, lease) for lease in pins)]
            self.assertEqual(list(plans), sorted(expected))
            self.assertEqual(plans, all_plans(fleet, pins, one, len(plans)))
            self.assertEqual(len(plans), many_plans(fleet, pins, one))
            for number, other in enumerate(plans):
                self.assertEqual(number_of(fleet, pins, one, other), number)
            still = [x for x in helper.plain_leases(fleet) if not any(apart(fleet, one, other, x) for other in plans)]
            self.assertEqual(list(frozen(fleet, pins, one)), still)

    def test_fewest_and_cheapest(self):
        chosen = random.Random(211)
        for fleet, pins, one, other, _ in drawn(212):
            prices = helper.drawn_prices(chosen, fleet)
            script = script_to(fleet, (), one, other)
            self.assertEqual(len(script), fewest_edits(fleet, (), one, other))
            self.assertEqual(len(script), distance(fleet, one, other))
            self.assertEqual(price_of(prices, script), least_price(fleet, prices, one, other))
            # Wishes that the other plan alone grants.
            m = len(fleet[2])
            wishes = tuple(("on", service, k, machine) for k, (machines, _) in enumerate(helper.plain_courses(fleet, other))
                           for service, machine in machines.items() if k in (0, m) or fleet[2][k - 1] == service)
            self.assertEqual(cheapest(fleet, (), one, wishes, prices), other)
            self.assertEqual(lowest_price(fleet, (), one, wishes, prices), price_of(prices, script))
            barred = barring(fleet, pins, one, other)
            self.assertEqual(fewest_opened(fleet, pins, one, wishes), (barred, other))
            rest = tuple(lease for lease in pins if lease not in barred)
            self.assertTrue(leads(fleet, rest, one, other))
            self.assertIs(leads(fleet, pins, one, other), not barred)

    def test_between_and_medians(self):
        for fleet, _, one, other, third in drawn(213):
            plans = plans_between(fleet, one, other)
            self.assertEqual(list(plans), [x for x in sorted(helper.plain_plans(fleet)) if is_between(fleet, one, other, x)])
            middle = median(fleet, one, other, third)
            for first, second in itertools.combinations((one, other, third), 2):
                self.assertTrue(is_between(fleet, first, second, middle))
            self.assertEqual(scripts_many(fleet, one, other) == 1, len(plans) == distance(fleet, one, other) + 1)
            self.assertEqual(len(rounds_to(fleet, (), one, other)), len(longest_row(fleet, one, other)))

    def test_merges(self):
        found = {True: 0, False: 0}
        for fleet, _, base, one, other in drawn(214):
            third = median(fleet, base, one, other)
            for told in ((one, other), (one, third), (third, other, one), (base, one, base)):
                both = any(quarrels(fleet, base, x, y) for x, y in itertools.combinations(told, 2))
                found[both] += 1
                if both:
                    self.assertRaises(NoMerge, merged_all, fleet, base, told)
                else:
                    plan = merged_all(fleet, base, told)
                    lot = {item for x in told for item in differences(fleet, base, x)}
                    self.assertEqual(set(differences(fleet, base, plan)), lot)
                    self.assertTrue(all(is_between(fleet, base, plan, x) for x in told))
            self.assertEqual(merged(fleet, base, one, third), one)
        self.assertGreater(min(found.values()), 20)

    def test_time_and_restarts(self):
        for fleet, _, one, other, _ in drawn(215):
            last = last_stretch(fleet, (), one, other)
            for now in range(len(fleet[2]) + 1):
                self.assertIs(leads(fleet, begun_pins(fleet, (), now), one, other), now <= last)
                if now <= last:
                    most = least_most(fleet, (), one, other, now)
                    told = timetable(fleet, (), one, other, now, most)
                    self.assertTrue(is_timetable(fleet, (), one, other, now, most, told))
                    self.assertEqual(sum(map(len, told)), distance(fleet, one, other))
            # A service that restarts behind all others may change what it will, and nothing else does.
            longer = with_restart(fleet, 8, "a")
            self.assertEqual(many_plans(longer, pins_with(fleet, (), 8, "a"), plan_with(one, 8)), 2 ** 9)
            self.assertEqual(fewest_rounds(longer, plan_with(one, 8), plan_with(other, 8)) > 0, one != other)


class NoMachineIsBookedTwice(unittest.TestCase):

    def test_each_way_that_a_plan_is_changed(self):
        chosen = random.Random(216)
        for fleet, pins, plan, other, _ in drawn(217):
            house = House(fleet, plan, pins[:1])
            for _ in range(30):
                edits = edits_of(fleet, house.plan(), house.held())
                before, now = house.plan(), house.now()
                call = chosen.choice([("edit", lease) for lease in edits[:3]] + [("lead", other), ("propose", 0, other),
                                     ("take_back", house.version()), ("pass_restart",)])
                helper.outcome(getattr(house, call[0]), call[1:])
                self.assertTrue(is_table(fleet, table_of(fleet, house.plan())))
                self.assertEqual(helper.plain_courses(fleet, house.plan())[:now + 1], helper.plain_courses(fleet, before)[:now + 1])
                self.assertEqual(run(fleet, before, begun_pins(fleet, house.pins(), now),
                                     script_to(fleet, house.held() if house.now() == now else (), before, house.plan())),
                                 house.plan())
            self.assertEqual(reopened(fleet, plan, pins[:1], house.log()), house)
            desk = Desk(fleet_text(fleet), plan_text(fleet, plan))
            for lease in pins[:1]:
                desk.execute(f"pin {lease[0]} {lease[1]}")
            for line in house.log().split("\n")[:-1]:
                told = line.replace("plan", "lead", 1) if line.startswith("plan") else line
                self.assertEqual(desk.execute(told), ["done"])
            self.assertEqual(helper.house_told(desk.house())[:9], helper.house_told(house)[:9])


if __name__ == "__main__":
    unittest.main()
