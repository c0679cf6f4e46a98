"""The plans of a class, numbered in the order of Python."""

from sparehop.classes import hopped, ways_on
from sparehop.errors import NoNumber, TooMany
from sparehop.fleets import size
from sparehop.leading import refuse_barred


def ends_there(on, start, word):
    """Tell whether a PLAN may stand still from a MET POINT to the end; on is what ways_on returns."""
    return all([word in ways for ways in on[start:]])


def next_hops(fleet, on, start, word):
    """Return the list of the HOPS that may come next behind a MET POINT, ascending.

    They are tuples of the number of the restart, the word behind it, and how many PLANS hop so.
    """
    hops = []
    number = start
    while number < size(fleet) and word in on[number]:
        behind = hopped(fleet, number, word)
        if behind in on[number + 1]:
            hops.append((number, behind, on[number + 1][behind]))
        number += 1
    return hops


def chosen_hop(hops, left):
    """Return the HOP by which the PLAN with a number goes on, as in next_hops, and its number among those that do."""
    at = 0
    while left >= hops[at][2]:
        left = left - hops[at][2]
        at += 1
    return hops[at], left


def plan_at(fleet, pins, plan, number):
    """Return the PLAN of the CLASS with a number, in the order of Python."""
    on = ways_on(fleet, pins, plan)
    if number >= on[0][()]:
        raise NoNumber(on[0][()])
    told = []
    start, word, left = 0, (), number
    # Of the PLANS that begin alike, the one without more HOPS is the least one.
    while left > 0 or not ends_there(on, start, word):
        if ends_there(on, start, word):
            left = left - 1
        hop, left = chosen_hop(next_hops(fleet, on, start, word), left)
        told.append(hop[0])
        start, word = hop[0] + 1, hop[1]
    return tuple(told)


def number_below(fleet, pins, plan, other):
    """Return how many PLANS of the CLASS are less than a PLAN, be it in the CLASS or not."""
    on = ways_on(fleet, pins, plan)
    below = 0
    start, word = 0, ()
    for number in other:
        if ends_there(on, start, word):
            below += 1
        hops = next_hops(fleet, on, start, word)
        below = below + sum([many for hop, behind, many in hops if hop < number])
        words = [behind for hop, behind, many in hops if hop == number]
        if not words:
            break
        start, word = number + 1, words[0]
    return below


def number_of(fleet, pins, plan, other):
    """Return the number of a PLAN of the CLASS; refuse a PLAN that is not in it."""
    number = number_below(fleet, pins, plan, other)
    refuse_barred(fleet, pins, plan, other)
    return number


def all_plans(fleet, pins, plan, most):
    """Return all PLANS of the CLASS, ascending, if there are not more than most."""
    on = ways_on(fleet, pins, plan)
    if on[0][()] > most:
        raise TooMany(most)
    rows = {(): [()]}
    for number in range(size(fleet)):
        following = {}
        for word, plans in rows.items():
            behind = hopped(fleet, number, word)
            # Where no way on is open no PLAN begins so.
            if on[number + 1].get(word, 0) > 0:
                following.setdefault(word, []).extend(plans)
            if on[number + 1].get(behind, 0) > 0:
                following.setdefault(behind, []).extend([(*hops, number) for hops in plans])
        rows = following
    return tuple(sorted([hops for plans in rows.values() for hops in plans]))
