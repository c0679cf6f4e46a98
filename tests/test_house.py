"""[37] the house: measured by its state kept by hand, while drawn calls lead it and all restarts happen."""

import random
import unittest

import helper
from helper import check_raised
from sparehop.errors import (
    NoEdit, NoGrant, NoLease, NoMerge, NoNumber, NoWay, Nothing, TooMany, Wrong,
)
from sparehop.house import House

SMALL_FLEETS = (helper.SMALL, helper.ALONE, helper.STILL, helper.SOME, *helper.drawn_fleets(8, 4, 5, 180),
                helper.letters("abcab"), helper.letters("aabba"))
PRICES = {("b", 2): 7, ("a", 3): 2, ("a", 0): 0, ("b", 0): 0, ("a", 1): 5}


class Houses(unittest.TestCase):

    def check_state(self, house, plain):
        """All that a house tells is so, it tells the same again, and what it returns may be changed."""
        told = helper.house_told(house)
        self.assertTrue(helper.same(told, plain.told()), (told, plain.told()))
        self.assertEqual(list(house.machines()), sorted(house.machines()))
        for part in list(helper.changeable(told)):
            part.clear()
        self.assertTrue(helper.same(helper.house_told(house), plain.told()))

    def check_call(self, house, plain, name, *arguments):
        """A call raises what it has to raise, or returns None; then the house is in the state that it has to be in."""
        expected = helper.outcome(getattr(plain, name), arguments)
        before, twin = helper.house_told(house), house.twin()
        kept = [helper.exact(part) for part in arguments]
        kind, told = helper.outcome(getattr(house, name), arguments)
        self.assertEqual([helper.exact(part) for part in arguments], kept)
        self.assertTrue(helper.same([kind, told], list(expected)), (name, arguments, kind, told, expected))
        if kind == "raised":
            self.assertTrue(helper.same(helper.house_told(house), before))
            self.assertTrue(house == twin)
        self.check_state(house, plain)
        return type(told)

    def check_no_machine_is_booked_twice(self, house, past):
        fleet = house.fleet()
        rows = helper.plain_courses(fleet, house.plan())
        for machines, spare in rows:
            self.assertEqual(sorted([*machines.values(), spare]), list(range(len(fleet[0]) + 1)))
        # What has happened is never told otherwise.
        self.assertEqual(rows[:house.now() + 1][:len(past)], past)
        return rows[:house.now() + 1]

    def test_drawn_calls_while_all_restarts_happen(self):
        chosen = random.Random(181)
        found = {}
        for fleet in SMALL_FLEETS * 4:
            pins, plan = helper.drawn_pins(chosen, fleet), chosen.choice(helper.plain_plans(fleet))
            pins = pins if chosen.random() < 0.4 else pins[:1]
            house, plain = House(fleet, plan, pins), helper.PlainHouse(fleet, plan, pins)
            past = self.check_no_machine_is_booked_twice(house, [])
            for _ in range(40):
                name, *arguments = helper.drawn_change(chosen, plain)
                kind = self.check_call(house, plain, name, *arguments)
                found[name, kind] = found.get((name, kind), 0) + 1
                past = self.check_no_machine_is_booked_twice(house, past)
            while house.now() < len(fleet[2]):
                self.check_call(house, plain, "pass_restart")
                self.check_call(house, plain, *helper.drawn_change(chosen, plain))
                past = self.check_no_machine_is_booked_twice(house, past)
            kind = self.check_call(house, plain, "pass_restart")
            found["pass_restart", kind] = found.get(("pass_restart", kind), 0) + 1
        nothing = type(None)
        for key in [("edit", nothing), ("edit", NoEdit), ("lead", nothing), ("lead", NoWay), ("propose", nothing),
                    ("propose", NoNumber), ("propose", NoMerge), ("propose", NoWay), ("take_back", nothing),
                    ("take_back", NoNumber), ("take_back", Nothing), ("take_back", NoMerge), ("take_back", NoWay),
                    ("grant", nothing), ("grant", NoGrant), ("pin", nothing), ("unpin", nothing), ("unpin", NoLease),
                    ("pass_restart", nothing), ("pass_restart", Nothing)]:
            self.assertGreater(found.get(key, 0), 1, key)

    def test_a_house_at_first(self):
        for fleet in (*SMALL_FLEETS, helper.LARGE):
            every = tuple(range(len(fleet[2])))
            for plan in ((), every):
                for pins in ((), helper.later_leases(fleet)):
                    house, plain = House(fleet, plan, pins), helper.PlainHouse(fleet, plan, pins)
                    self.check_state(house, plain)
                    if fleet != helper.LARGE:
                        for call in (("lead", plan), ("propose", 0, plan), ("take_back", 0), ("take_back", 1)):
                            self.check_call(house, plain, *call)
                    self.assertEqual(house.log(), "")

    def test_a_plan_that_is_the_same(self):
        house, plain = House(helper.SMALL, (0, 2), ()), helper.PlainHouse(helper.SMALL, (0, 2), ())
        for call in (("lead", (0, 2)), ("propose", 0, (0, 2)), ("grant", (), PRICES), ("grant", (("stay", 1),), PRICES)):
            self.check_call(house, plain, *call)
            self.assertEqual((house.version(), house.log()), (0, ""))
        self.check_call(house, plain, "edit", ("a", 3))
        self.check_call(house, plain, "take_back", 1)
        self.check_call(house, plain, "take_back", 1)
        self.check_call(house, plain, "propose", 1, (0, 2))
        self.assertEqual((house.version(), house.log()), (2, "plan 0\nplan 0 2\n"))

    def test_a_lease_that_has_begun(self):
        house, plain = House(helper.SMALL, (), ()), helper.PlainHouse(helper.SMALL, (), ())
        for call in (("pass_restart",), ("edit", ("a", 1)), ("lead", (0,)), ("pin", ("a", 1)), ("pin", ("a", 1)),
                     ("unpin", ("a", 1)), ("unpin", ("a", 1)), ("edit", ("a", 3)), ("lead", (1,)),
                     ("pass_restart",), ("lead", ()), ("lead", (1, 2)), ("lead", (1,)), ("edit", ("b", 2)), ("pass_restart",),
                     ("lead", (1, 2)), ("edit", ("a", 3)), ("pass_restart",), ("pin", ("a", 3)), ("unpin", ("b", 2))):
            self.check_call(house, plain, *call)
        self.assertEqual(house.log(), "pass\npin a 1\nunpin a 1\nplan 2\nplan 1\npass\nplan 1 2\nplan 1\npass\npin a 3\n")
        self.assertEqual(house.held(), (("a", 1), ("a", 3), ("b", 2)))

    def test_errors_come_in_their_order(self):
        house = House(helper.SMALL, (), (("a", 3), ("b", 2)))
        house.lead((0, 2))
        check_raised(self, NoNumber(2), lambda: house.propose(2, (1,)))
        check_raised(self, NoNumber(2), lambda: house.take_back(2))
        check_raised(self, Nothing(), lambda: house.take_back(0))
        quarrel = helper.plain_merged(helper.SMALL, (), (0, 2), (1,))[1]
        check_raised(self, NoMerge(quarrel), lambda: house.propose(0, (1,)))
        check_raised(self, NoWay(("a", 3)), lambda: house.propose(1, (0, 1, 2)))
        check_raised(self, NoWay(("b", 2)), lambda: House(helper.SMALL, (), (("b", 2),)).propose(0, (0, 1, 2)))
        check_raised(self, NoWay(("a", 3)), lambda: house.lead((2,)))
        house.pass_restart()
        check_raised(self, NoWay(("a", 1)), lambda: house.lead((2,)))
        check_raised(self, NoWay(("a", 1)), lambda: house.take_back(1))
        check_raised(self, NoEdit(0), lambda: house.edit(("a", 0)))
        check_raised(self, NoLease(("a", 1)), lambda: house.unpin(("a", 1)))
        check_raised(self, NoGrant(), lambda: house.grant((("on", "a", 1, 0),), PRICES))
        self.assertEqual(house.log(), "plan 0 2\npass\n")

    def test_what_is_taken_back_keeps_what_came_later(self):
        house = House(helper.SMALL, (), ())
        house.edit(("a", 1))
        house.edit(("a", 3))
        house.take_back(1)
        self.assertEqual((house.plan(), house.version()), ((2,), 3))
        house.take_back(2)
        self.assertEqual(house.plan(), ())
        self.assertEqual(house.log(), "plan 0 2\nplan 0\nplan 2\nplan\n")

    def test_too_many_points(self):
        for fleet, pins in (helper.ONE_TOO_MANY, (helper.MORE_POINTS, ()), (helper.LARGE, ())):
            house = House(fleet, (), pins)
            prices = dict.fromkeys(helper.plain_leases(fleet), 1)
            nobody = (("off", fleet[0][0], 0, fleet[1][0]),)
            check_raised(self, TooMany(4000), lambda: house.grant((), prices))
            check_raised(self, TooMany(4000), lambda: house.grant(nobody, prices))
            self.assertEqual(house.log(), "")
        fleet, pins = helper.JUST_ENOUGH
        house = House(fleet, (), pins)
        prices = dict.fromkeys(helper.plain_leases(fleet), 1)
        goal = helper.plain_courses(fleet, (3, 8))[-1][0]["a"]
        helper.quick(self, house.grant, (("on", "a", len(fleet[2]), goal),), prices)
        self.assertEqual(helper.plain_courses(fleet, house.plan())[-1][0]["a"], goal)

    def test_large_houses(self):
        chosen = random.Random(182)
        house, plain = House(helper.LARGE, (), ()), []
        for now in range(60):
            for _ in range(3):
                hops = tuple(j for j in range(60) if (j in house.plan() if j < now else chosen.random() < 0.3))
                kind = helper.quick(self, house.lead, hops)
                self.assertTrue(kind is None or isinstance(kind, NoWay))
                lease = chosen.choice(helper.later_leases(helper.LARGE))
                helper.quick(self, house.edit, lease)
                helper.quick(self, house.propose, chosen.randint(0, house.version()), hops)
                helper.quick(self, house.take_back, chosen.randint(0, house.version()))
            plain.append(helper.plain_courses(helper.LARGE, house.plan())[now])
            self.assertEqual((house.machines(), house.spare()), plain[-1])
            house.pass_restart()
        self.assertEqual(helper.plain_courses(helper.LARGE, house.plan())[:60], plain)
        self.assertGreater(house.version(), 60)


class Wrongs(unittest.TestCase):

    def things(self, right, seed):
        chosen = random.Random(seed)
        return [right, *helper.every_kind(), *helper.otherwise(right), *helper.twice_otherwise(right, 60, chosen.random())]

    def check_wrong(self, expected, make, arguments):
        """A call raises Wrong with this place, or, if it is None, no Wrong; and it changes no argument."""
        kept = [helper.exact(part) for part in arguments]
        kind, told = helper.outcome(make, arguments)
        self.assertEqual([helper.exact(part) for part in arguments], kept)
        if expected is None:
            self.assertFalse(isinstance(told, Wrong), arguments)
        else:
            self.assertTrue(helper.same([kind, told], ["raised", Wrong(expected)]), (arguments, told))

    def test_the_constructor(self):
        rights = [helper.SMALL, (0, 2), (("a", 1), ("b", 2))]
        plans = {repr(plan) for plan in helper.plain_plans(helper.SMALL)}
        pins = {repr(told) for many in range(4) for told in self.combinations(helper.later_leases(helper.SMALL), many)}
        tests = (lambda thing: helper.same(thing, helper.SMALL) or self.is_other_fleet(thing),
                 lambda thing: repr(thing) in plans, lambda thing: repr(thing) in pins)
        for place in range(3):
            for thing in self.things(rights[place], place):
                arguments = [*rights[:place], thing, *rights[place + 1:]]
                if place == 0 and not helper.same(thing, helper.SMALL):
                    # In another fleet the plan or the pins may be none.
                    arguments[1:] = [(), ()]
                self.check_wrong(None if tests[place](thing) else place, House, arguments)
        self.check_wrong(0, House, [None, None, None])
        self.check_wrong(1, House, [helper.SMALL, None, None])
        self.check_wrong(1, House, [helper.SMALL, (3,), None])
        self.check_wrong(2, House, [helper.SMALL, (2,), (("a", 0),)])
        self.check_wrong(2, House, [helper.ALONE, (), (("a", 0),)])

    def combinations(self, items, many):
        return [()] if many == 0 else [(*part, item) for part in self.combinations(items, many - 1)
                                       for item in items if not part or item > part[-1]]

    def is_other_fleet(self, thing):
        if type(thing) is not tuple or len(thing) != 3 or not all(type(part) is tuple for part in thing):
            return False
        services, places, restarts = thing
        if not services or not all(type(name) is str and 1 <= len(name) <= 12 and name.islower() and name.isalpha()
                                   for name in services) or list(services) != sorted(set(services)):
            return False
        if not all(type(place) is int and 0 <= place <= len(services) for place in places):
            return False
        return len(places) == len(services) == len(set(places)) and all(
            type(name) is str and name in services for name in restarts)

    def test_leases(self):
        leases = {repr(lease) for lease in helper.plain_leases(helper.SMALL)}
        for right in (("a", 1), ("a", 0), ("b", 2)):
            for thing in self.things(right, 3):
                house = House(helper.SMALL, (), (("b", 2),))
                is_lease = repr(thing) in leases
                self.check_wrong(None if is_lease else 0, house.edit, [thing])
                is_pin = is_lease and thing[1] > 0
                house.pin(("b", 2))
                for method in (house.pin, house.unpin):
                    self.check_wrong(None if is_pin else 0, method, [thing])
                if not is_lease:
                    self.assertEqual(house, House(helper.SMALL, (), (("b", 2),)))

    def test_plans_and_versions(self):
        plans = {repr(plan) for plan in helper.plain_plans(helper.SMALL)}
        for thing in self.things((0, 2), 4):
            house = House(helper.SMALL, (), ())
            self.check_wrong(None if repr(thing) in plans else 0, house.lead, [thing])
            self.check_wrong(None if repr(thing) in plans else 1, house.propose, [0, thing])
            self.check_wrong(None if repr(thing) in plans else 1, house.propose, [9, thing])
        for thing in [*self.things(0, 5), *self.things(1, 6), 3, True, False, -1, 10 ** 40 - 1, 1 - 10 ** 40]:
            expected = None if type(thing) is int and thing >= 0 else 0
            house = House(helper.SMALL, (), ())
            house.lead((0, 2))
            for method in (house.plan_of, house.take_back):
                self.check_wrong(expected, method, [thing])
            self.check_wrong(expected, house.propose, [thing, ()])
            self.check_wrong(0 if expected == 0 else 1, house.propose, [thing, [0]])
            if type(thing) is int and thing > 3:
                check_raised(self, NoNumber(house.version() + 1), lambda: house.plan_of(thing))
        house = House(helper.SMALL, (), ())
        check_raised(self, NoNumber(1), lambda: house.plan_of(1))
        self.assertEqual(house.plan_of(0), ())

    def test_wishes_and_prices(self):
        every = {repr(wish) for wish in helper.every_wish(helper.SMALL)}
        wishes = (("spare", 0, 1, 2), ("stay", 1))
        keys = {repr(lease) for lease in PRICES}
        for thing in self.things(wishes, 7):
            right = type(thing) is tuple and len(thing) <= 40 and all(repr(part) in every for part in thing)
            house = House(helper.SMALL, (), ())
            self.check_wrong(None if right else 0, house.grant, [thing, PRICES])
            self.check_wrong(1 if right else 0, house.grant, [thing, {}])
        for thing in self.things(PRICES, 8):
            right = type(thing) is dict and {repr(key) for key in thing} == keys and all(
                type(price) is int and price >= 0 for price in thing.values())
            house = House(helper.SMALL, (), ())
            self.check_wrong(None if right else 1, house.grant, [wishes, thing])
            self.check_wrong(0, house.grant, [[], thing])
            self.assertEqual(house.log(), "plan 0 2\n" if right else "")
        stays = (("stay", 0),)
        self.check_wrong(None, House(helper.SMALL, (), ()).grant, [stays * 40, PRICES])
        self.check_wrong(0, House(helper.SMALL, (), ()).grant, [stays * 41, PRICES])


class Twins(unittest.TestCase):

    def test_twins_go_their_own_ways(self):
        chosen = random.Random(183)
        for fleet in SMALL_FLEETS * 2:
            house = House(fleet, (), helper.drawn_pins(chosen, fleet)[:1])
            plain = helper.PlainHouse(fleet, (), house.pins())
            for _ in range(12):
                helper.outcome(getattr(plain, "lead"), [plain.plans[-1]])
                name, *arguments = helper.drawn_change(chosen, plain)
                twin = house.twin()
                self.assertTrue(twin == house and not twin != house and twin is not house)
                before = helper.house_told(twin)
                kind, told = helper.outcome(getattr(house, name), arguments)
                helper.outcome(getattr(plain, name), arguments)
                self.assertTrue(helper.same(helper.house_told(twin), before))
                self.assertIs(twin == house, house.log() == twin.log())
                again = helper.outcome(getattr(twin, name), arguments)
                self.assertTrue(helper.same([kind, told], list(again)))
                self.assertTrue(twin == house)
                self.assertTrue(helper.same(helper.house_told(twin), helper.house_told(house)))

    def test_houses_that_are_equal_and_not(self):
        houses = [House(helper.SMALL, (), ()), House(helper.SMALL, (0,), ()), House(helper.SMALL, (), (("a", 3),)),
                  House((("a", "b"), (0, 1), ("a", "b")), (), ()), House((("a", "b"), (0, 2), ("a", "b", "a")), (), ())]
        for call in (("edit", ("a", 1)), ("pin", ("a", 3)), ("pass_restart",), ("lead", (2,))):
            house = House(helper.SMALL, (), ())
            getattr(house, call[0])(*call[1:])
            houses.append(house)
        # The same state, but another log, or other versions.
        back = House(helper.SMALL, (), ())
        back.pin(("a", 3))
        back.unpin(("a", 3))
        houses.append(back)
        again = House(helper.SMALL, (), ())
        again.lead((2,))
        again.lead(())
        houses.append(again)
        for first in range(len(houses)):
            for second in range(len(houses)):
                self.assertIs(houses[first] == houses[second], first == second, (first, second))
                self.assertIs(houses[first] != houses[second], first != second)
            self.assertTrue(houses[first] == houses[first].twin())
        for thing in [thing for thing in helper.every_kind() if not isinstance(thing, House)]:
            self.assertFalse(houses[0] == thing or thing == houses[0], thing)
            self.assertTrue(houses[0] != thing and thing != houses[0])

    def test_the_same_pins_in_another_order_of_calls(self):
        one, other = House(helper.SMALL, (), ()), House(helper.SMALL, (), (("b", 2),))
        for lease in (("b", 2), ("a", 3), ("a", 1)):
            one.pin(lease)
            other.pin(lease)
        self.assertEqual(one.pins(), (("a", 1), ("a", 3), ("b", 2)))
        self.assertEqual(one.pins(), other.pins())
        self.assertFalse(one == other)
        one.unpin(("a", 3))
        self.assertEqual(one.pins(), (("a", 1), ("b", 2)))

    def test_a_house_keeps_nothing_that_the_caller_may_change(self):
        prices = dict(PRICES)
        house = House(helper.SMALL, (), ())
        house.grant((("spare", 0, 1, 2),), prices)
        prices.clear()
        house.machines().clear()
        self.assertEqual((house.plan(), house.machines()), ((0, 2), {"a": 0, "b": 1}))


if __name__ == "__main__":
    unittest.main()
