"""[16] tables."""

import itertools
import random
import unittest

import helper
from helper import called, check, check_raised
from sparehop.errors import NoTable
from sparehop.tables import is_table, plan_of, table_fault, table_of

SMALL_FLEETS = (helper.SMALL, helper.ALONE, helper.STILL, helper.SOME, *helper.drawn_fleets(12, 4, 5, 12))
LARGE_FLEETS = (helper.LARGE, *helper.drawn_fleets(6, 8, 60, 13))


def plain_fault(fleet, thing):
    """The first of all faults of a value, None for a table."""
    leases = helper.plain_leases(fleet)
    if type(thing) is not dict or sorted(map(repr, thing)) != sorted(map(repr, leases)):
        return ("form",)
    faults = [(1, ("machine", x)) for x in leases if repr(thing[x]) not in map(str, range(len(fleet[0]) + 1))]
    faults += [(2, ("first", (s, 0))) for s, p in zip(fleet[0], fleet[1]) if not helper.same(thing[(s, 0)], p)]
    if not faults:
        for stretch in range(len(fleet[2]) + 1):
            taken = [thing[x] for x in leases if stretch in helper.plain_stretches(fleet, x)]
            faults += [(3, ("twice", stretch))] * (len(set(taken)) < len(taken))
    return min(faults)[1] if faults else None


class Tables(unittest.TestCase):

    def check_value(self, fleet, thing, plans):
        """All functions tell of a value what the faults say; plans are told by their tables."""
        fault = plain_fault(fleet, thing)
        check(self, fault, table_fault, fleet, thing)
        check(self, fault is None, is_table, fleet, thing)
        if fault is None:
            (plan,) = [plan for plan in plans if helper.plain_table(fleet, plan) == thing]
            check(self, plan, plan_of, fleet, thing)
        else:
            check_raised(self, NoTable(fault), plan_of, fleet, thing)
        return fault

    def test_each_plan_comes_back_from_its_table(self):
        chosen = random.Random(14)
        plans = [(fleet, plan) for fleet in SMALL_FLEETS for plan in helper.plain_plans(fleet)]
        for fleet in LARGE_FLEETS:
            every = tuple(range(len(fleet[2])))
            plans += [(fleet, plan) for plan in ((), every, every[::2], helper.drawn_part(chosen, every))]
        for fleet, plan in plans:
            table = called(self, table_of, fleet, plan)
            self.assertTrue(helper.same(table, helper.plain_table(fleet, plan)))
            self.assertEqual(list(table), sorted(table))
            keys = list(table)
            chosen.shuffle(keys)
            for thing in (table, {key: table[key] for key in keys}):
                self.assertIsNone(self.check_value(fleet, thing, [plan]))

    def test_each_table_belongs_to_one_plan(self):
        for fleet in (helper.SMALL, helper.ALONE, (("a",), (1,), ("a", "a")), (("a", "b"), (2, 0), ("b", "b"))):
            leases, plans = helper.plain_leases(fleet), helper.plain_plans(fleet)
            machines = range(len(fleet[0]) + 1)
            faults = []
            for row in itertools.product(machines, repeat=len(leases)):
                faults.append(self.check_value(fleet, dict(zip(leases, row)), plans))
            self.assertEqual(faults.count(None), len(plans))

    def test_values_of_every_kind(self):
        for fleet in (helper.SMALL, helper.ALONE):
            for thing in helper.every_kind():
                self.check_value(fleet, thing, helper.plain_plans(fleet))

    def test_parts_otherwise(self):
        for fleet, plan in ((helper.SMALL, (0, 2)), (helper.ALONE, ()), (helper.SOME, (1, 3))):
            table = table_of(fleet, plan)
            for thing in (*helper.otherwise(table), *helper.twice_otherwise(table, 300, 15)):
                self.check_value(fleet, thing, helper.plain_plans(fleet))

    def test_keys_out_and_more(self):
        table = table_of(helper.SMALL, (0, 2))
        for key in table:
            rest = {other: table[other] for other in table if other != key}
            self.assertEqual(self.check_value(helper.SMALL, rest, []), ("form",))
            for more in (("a", 2), ("c", 0), (key[0], str(key[1])), list(key)[0], None, (*key, 0)):
                self.assertEqual(self.check_value(helper.SMALL, {**rest, more: table[key]}, []), ("form",))
                self.assertEqual(self.check_value(helper.SMALL, {**table, more: table[key]}, []), ("form",))

    def test_a_truth_within_a_key_is_no_integer(self):
        table = table_of(helper.SMALL, ())
        for lease, truth in ((("a", 1), True), (("a", 0), False), (("b", 0), False)):
            thing = {(key[0], truth) if key == lease else key: table[key] for key in table}
            self.assertEqual(self.check_value(helper.SMALL, thing, []), ("form",))

    def test_the_order_of_the_faults(self):
        table = table_of(helper.SMALL, ())
        rows = [
            (("machine", ("a", 3)), {("a", 3): 3, ("b", 0): 4, ("a", 0): 1}),
            (("machine", ("b", 2)), {("b", 2): True, ("a", 0): 2}),
            (("machine", ("a", 0)), {("a", 0): False}),
            (("machine", ("a", 1)), {("a", 1): -1, ("a", 3): None}),
            (("first", ("a", 0)), {("a", 0): 1, ("b", 0): 0}),
            (("first", ("b", 0)), {("b", 0): 2, ("a", 1): 2}),
            (("first", ("b", 0)), {("b", 0): 0, ("a", 3): 1}),
            (("twice", 1), {("a", 1): 1, ("a", 3): 1}),
            (("twice", 3), {("a", 3): 1}),
            (("twice", 2), {("b", 2): 0}),
            (None, {("b", 2): 2}),
        ]
        for fault, parts in rows:
            thing = {**table, **parts}
            self.assertEqual(self.check_value(helper.SMALL, thing, helper.plain_plans(helper.SMALL)), fault)


if __name__ == "__main__":
    unittest.main()
