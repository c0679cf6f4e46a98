"""[12] the forms: each value is measured by all right ones, or by the definition."""

import itertools
import re
import string
import unittest

import helper
from helper import check, same
from sparehop.forms import (
    are_edits, are_pins, are_prices, is_edge, is_fleet, is_integer, is_lease, is_name, is_plan, is_reduced, is_word,
)


def is_one_of(thing, things):
    return any(same(thing, other) for other in things)


def plain_fleet(thing):
    """Whether a value is a fleet, by its definition."""
    if type(thing) is not tuple or [type(part) for part in thing] != [tuple] * 3:
        return False
    services, places, restarts = thing
    if not services or not all(type(s) is str and re.fullmatch("[a-z]{1,12}", s) for s in services):
        return False
    if list(services) != sorted(set(services)) or len(places) != len(services):
        return False
    if not all(type(p) is int and p in range(len(services) + 1) for p in places):
        return False
    return len(set(places)) == len(places) and all(type(s) is str and s in services for s in restarts)


def plain_prices(fleet, thing):
    """Whether a value is prices, by their definition."""
    if type(thing) is not dict or not all(type(price) is int and price >= 0 for price in thing.values()):
        return False
    like_leases = [type(key) is tuple and [type(part) for part in key] == [str, int] for key in thing]
    return all(like_leases) and sorted(thing) == helper.plain_leases(fleet)


def plain_edge(fleet, thing):
    """Whether a value is an edge, by its definition."""
    if type(thing) is not tuple or len(thing) != 2 or type(thing[0]) is not tuple:
        return False
    word, service = thing
    if not all(type(s) is str and s in fleet[0] for s in (*word, service)):
        return False
    return helper.plain_reduced((*word, service)) == (*word, service)


class Forms(unittest.TestCase):

    def test_integers(self):
        for thing in helper.every_kind():
            check(self, type(thing) is int, is_integer, thing)

    def test_names(self):
        for thing in ["a", "z", "abcdefghijkl", string.ascii_lowercase[14:]]:
            check(self, True, is_name, thing)
        for thing in ["", "abcdefghijklm", "A", "aB", "a1", "a b", "a\n", "\n", "a-", "`", "{", "\u00e4", "\u0430", ("a",)]:
            check(self, False, is_name, thing)
        for thing in helper.every_kind():
            check(self, thing in ("a", "b") if type(thing) is str else False, is_name, thing)

    def test_fleets(self):
        for fleet in (*helper.FLEETS, *helper.drawn_fleets(40, 8, 60, 1)):
            check(self, True, is_fleet, fleet)
        for thing in helper.every_kind():
            check(self, False, is_fleet, thing)

    def test_fleets_with_parts_otherwise(self):
        right = 0
        for fleet in (helper.SMALL, helper.ALONE, helper.STILL, helper.SOME):
            for thing in (*helper.otherwise(fleet), *helper.twice_otherwise(fleet, 300, 2)):
                right += plain_fleet(thing)
                check(self, plain_fleet(thing), is_fleet, thing)
        self.assertGreater(right, 20)

    def test_fleets_beyond_the_bounds_are_fleets(self):
        names = tuple(string.ascii_lowercase)
        check(self, True, is_fleet, (names, tuple(range(26)), names * 9))

    def test_leases(self):
        for fleet in helper.FLEETS:
            right = helper.plain_leases(fleet)
            things = [(s, begin) for s in (*fleet[0], "zz", "") for begin in range(-1, len(fleet[2]) + 3)]
            things += [part for lease in right[:4] for part in helper.otherwise(lease)]
            for thing in (*right, *things, *helper.every_kind()):
                check(self, is_one_of(thing, right), is_lease, fleet, thing)

    def test_plans(self):
        for fleet in (helper.SMALL, helper.ALONE, helper.SOME):
            right = helper.plain_plans(fleet)
            things = [part for plan in right for part in helper.otherwise(plan)]
            pairs = list(itertools.product(range(-1, 5), repeat=2))
            for thing in (*right, *things, *pairs, *helper.every_kind()):
                check(self, is_one_of(thing, right), is_plan, fleet, thing)
        check(self, True, is_plan, helper.LARGE, tuple(range(60)))
        check(self, False, is_plan, helper.LARGE, tuple(range(61)))

    def test_pins(self):
        for fleet in (helper.SMALL, helper.ALONE, helper.SOME):
            later = [lease for lease in helper.plain_leases(fleet) if lease[1] > 0]
            right = [pins for many in range(len(later) + 1) for pins in itertools.combinations(later, many)]
            things = [part for pins in right for part in helper.otherwise(pins)]
            doubled = list(itertools.product(helper.plain_leases(fleet), repeat=2))
            for thing in (*right, *things, *doubled, *helper.every_kind()):
                check(self, is_one_of(thing, right), are_pins, fleet, thing)

    def test_all_leases_but_the_first_ones_are_pins(self):
        later = tuple(lease for lease in helper.plain_leases(helper.LARGE) if lease[1] > 0)
        check(self, True, are_pins, helper.LARGE, later)
        check(self, False, are_pins, helper.LARGE, (("a", 0), *later))

    def test_edits(self):
        for fleet in (helper.SMALL, helper.ALONE, helper.SOME):
            leases = helper.plain_leases(fleet)
            right = [edits for many in range(3) for edits in itertools.product(leases, repeat=many)]
            things = [part for edits in right[-9:] for part in helper.otherwise(edits)]
            for thing in (*right, *things, *helper.every_kind()):
                expected = type(thing) is tuple and all(is_one_of(part, leases) for part in thing)
                check(self, expected, are_edits, fleet, thing)
        check(self, True, are_edits, helper.SMALL, (("b", 2),) * 2000)
        check(self, False, are_edits, helper.SMALL, (*((("b", 2),) * 1999), ("b", True)))

    def test_words(self):
        for fleet in (helper.SMALL, helper.ALONE, helper.STILL):
            right = [word for many in range(4) for word in itertools.product(fleet[0], repeat=many)]
            things = [part for word in right for part in helper.otherwise(word)]
            for thing in (*right, *things, *helper.every_kind()):
                expected = type(thing) is tuple and all(type(s) is str and s in fleet[0] for s in thing)
                check(self, expected, is_word, fleet, thing)
                neighbours = expected and any(x == y for x, y in zip(thing, thing[1:]))
                check(self, expected and not neighbours, is_reduced, fleet, thing)

    def test_edges(self):
        for fleet in (helper.SMALL, helper.ALONE, helper.STILL):
            right = [(word[:-1], word[-1]) for word in helper.reduced_words(fleet[0], 4) if word]
            things = [(word, s) for word, _ in right for s in fleet[0]]
            things += [(("a", "a"), "b"), (("a", "a"), "a"), ("a", "b"), ("", "a"), ("a",), ((), ("a",))]
            things += [part for edge in right[:20] for part in helper.otherwise(edge)]
            for edge in right:
                check(self, True, is_edge, fleet, edge)
            for thing in (*things, *helper.every_kind()):
                check(self, plain_edge(fleet, thing), is_edge, fleet, thing)

    def test_prices(self):
        for fleet in (helper.SMALL, helper.ALONE, helper.SOME):
            prices = {lease: k * 10 ** 6 // 7 for k, lease in enumerate(helper.plain_leases(fleet))}
            upside_down = {lease: prices[lease] for lease in reversed(prices)}
            check(self, True, are_prices, fleet, prices)
            check(self, True, are_prices, fleet, upside_down)
            for thing in (*helper.otherwise(prices), *helper.twice_otherwise(upside_down, 200, 3), *helper.every_kind()):
                check(self, plain_prices(fleet, thing), are_prices, fleet, thing)

    def test_truths_within_keys_are_no_integers(self):
        prices = {lease: 1 for lease in helper.plain_leases(helper.SMALL)}
        for lease, truth in ((("a", 0), False), (("a", 1), True), (("b", 0), False)):
            keys = [(lease[0], truth) if key == lease else key for key in prices]
            check(self, False, are_prices, helper.SMALL, {key: 1 for key in keys})

    def test_prices_of_a_large_fleet(self):
        prices = {lease: 10 ** 6 for lease in helper.plain_leases(helper.LARGE)}
        check(self, True, are_prices, helper.LARGE, prices)
        check(self, False, are_prices, helper.LARGE, {**prices, ("h", 0): True})
        check(self, True, are_prices, helper.LARGE, {**prices, ("h", 0): 10 ** 39})


if __name__ == "__main__":
    unittest.main()
