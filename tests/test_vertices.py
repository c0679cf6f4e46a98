"""[18] vertices of plans, and the machines at them."""

import itertools
import random
import unittest

import helper
from helper import called, check
from sparehop.vertices import machines_at, plan_by, spare_at, vertex_in, vertices_of

SMALL_FLEETS = (helper.SMALL, helper.ALONE, helper.STILL, helper.SOME, *helper.drawn_fleets(12, 4, 5, 18))
LARGE_FLEETS = (helper.LARGE, *helper.drawn_fleets(8, 8, 60, 19))


class Vertices(unittest.TestCase):

    def check_plan(self, fleet, plan):
        expected = helper.plain_vertices(fleet, plan)
        check(self, expected, vertices_of, fleet, plan)
        check(self, plan, plan_by, fleet, expected)
        rows = helper.plain_courses(fleet, plan)
        for stretch, word in enumerate(expected):
            check(self, word, vertex_in, fleet, plan, stretch)
            machines, spare = rows[stretch]
            check(self, tuple(machines[s] for s in fleet[0]), machines_at, fleet, word)
            check(self, spare, spare_at, fleet, word)

    def test_each_plan_comes_back_from_its_vertices(self):
        for fleet in SMALL_FLEETS:
            for plan in helper.plain_plans(fleet):
                self.check_plan(fleet, plan)

    def test_large_fleets(self):
        chosen = random.Random(20)
        for fleet in LARGE_FLEETS:
            every = tuple(range(len(fleet[2])))
            for plan in ((), every, every[::2], helper.drawn_part(chosen, every)):
                self.check_plan(fleet, plan)

    def test_rows_of_vertices_belong_to_plans_and_no_others_do(self):
        fleets = (helper.SMALL, helper.ALONE, (("a",), (0,), ("a", "a", "a")), (("a", "b", "c"), (0, 1, 2), ("c", "c")))
        for fleet in fleets:
            right = {helper.plain_vertices(fleet, plan): plan for plan in helper.plain_plans(fleet)}
            self.assertEqual(len(right), 2 ** len(fleet[2]))
            words = helper.reduced_words(fleet[0], min(3, len(fleet[2]) + 1))
            for row in itertools.product(words, repeat=len(fleet[2]) + 1):
                check(self, right.get(row), plan_by, fleet, row)

    def test_parts_otherwise_and_values_of_every_kind(self):
        chosen = random.Random(21)
        for fleet in (helper.SMALL, helper.ALONE, helper.SOME):
            right = {repr(helper.plain_vertices(fleet, plan)): plan for plan in helper.plain_plans(fleet)}
            things = helper.every_kind()
            for plan in helper.plain_plans(fleet):
                vertices = vertices_of(fleet, plan)
                things += helper.otherwise(vertices)
                things += helper.twice_otherwise(vertices, 20, chosen.random())
            for thing in things:
                check(self, right.get(repr(thing)), plan_by, fleet, thing)

    def test_a_row_of_words_that_are_not_reduced(self):
        fleet = (("a", "b"), (0, 1), ("a", "a"))
        check(self, None, plan_by, fleet, ((), ("a",), ("a", "a")))
        check(self, (0, 1), plan_by, fleet, ((), ("a",), ()))
        check(self, None, plan_by, fleet, (("a",), (), ("a",)))
        check(self, None, plan_by, fleet, (("b", "b"), ("a",), ()))

    def test_machines_at_all_words(self):
        for fleet in (helper.SMALL, helper.ALONE, helper.STILL, helper.SOME):
            for many in range(6):
                for word in itertools.product(fleet[0], repeat=many):
                    steps = (fleet[0], fleet[1], word)
                    machines, spare = helper.plain_courses(steps, range(many))[-1]
                    expected = tuple(machines[s] for s in fleet[0])
                    check(self, expected, machines_at, fleet, word)
                    check(self, spare, spare_at, fleet, word)
                    short = helper.plain_reduced(word)
                    self.assertEqual((machines_at(fleet, short), spare_at(fleet, short)), (expected, spare))

    def test_a_long_word(self):
        chosen = random.Random(22)
        word = tuple(chosen.choice(helper.LARGE[0]) for _ in range(2000))
        short = helper.plain_reduced(word)
        self.assertEqual(called(self, machines_at, helper.LARGE, word), machines_at(helper.LARGE, short))
        self.assertEqual(called(self, spare_at, helper.LARGE, word), spare_at(helper.LARGE, short))


if __name__ == "__main__":
    unittest.main()
