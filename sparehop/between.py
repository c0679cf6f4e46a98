"""The plans between two plans, and the shortest scripts along them, numbered."""

from sparehop.apart import distance
from sparehop.differences import differences, with_differences
from sparehop.edits import span_of, turned
from sparehop.errors import NoNumber, TooMany
from sparehop.forms import is_plan
from sparehop.leading import MOST_PLANS
from sparehop.precedence import just_before, turned_round


def is_between(fleet, one, other, thing):
    """Tell whether a value is a PLAN BETWEEN two PLANS."""
    if not is_plan(fleet, thing):
        return False
    return distance(fleet, one, thing) + distance(fleet, thing, other) == distance(fleet, one, other)


def next_ready(ready, number, done, earlier, later):
    """Return the numbers of the DIFFERENCES that are free when that with a number is done, too, ascending.

    ready has those that were free before, the bits of done are the numbers of all that are done now.
    """
    kept = [other for other in ready if other != number]
    added = [other for other in later[number] if all([done >> before & 1 for before in earlier[other]])]
    return sorted(kept + added)


def steps_between(fleet, one, other):
    """Return the dict from each PLAN BETWEEN two PLANS to a dict from EDITS to PLANS.

    These are the EDITS that bring it nearer to other, ascending, and the PLANS to which they lead; each
    PLAN comes ahead of those to which its EDITS lead.
    """
    lot = differences(fleet, one, other)
    earlier = just_before(fleet, one, other, lot)
    later = turned_round(earlier)
    steps = {}
    layer = {one: (0, [number for number in range(len(lot)) if not earlier[number]])}
    while layer:
        following = {}
        for plan, (done, ready) in layer.items():
            steps[plan] = {}
            for number in ready:
                lease = lot[number][0]
                behind = turned(fleet, plan, span_of(fleet, lease))
                steps[plan][lease] = behind
                if behind not in following:
                    done_behind = done | 1 << number
                    following[behind] = (done_behind, next_ready(ready, number, done_behind, earlier, later))
            if len(steps) + len(following) > MOST_PLANS:
                raise TooMany(MOST_PLANS)
        layer = following
    return steps


def plans_between(fleet, one, other):
    """Return the PLANS BETWEEN two PLANS, ascending."""
    return tuple(sorted(steps_between(fleet, one, other)))


def closed_of(fleet, one, other, plan):
    """Return the CLOSED set of DIFFERENCES that belongs to a PLAN BETWEEN two PLANS, ascending."""
    return differences(fleet, one, plan)


def plan_of_closed(fleet, one, other, lot):
    """Return the PLAN BETWEEN two PLANS to which a CLOSED set of DIFFERENCES belongs."""
    return with_differences(fleet, one, lot)


def scripts_from(steps):
    """Return the dict from each PLAN BETWEEN to the number of the shortest SCRIPTS from it to the last one."""
    many = {}
    for plan in reversed(list(steps)):
        counts = [many[behind] for behind in steps[plan].values()]
        # Only the last PLAN has no EDIT left: the empty SCRIPT leads from it to itself.
        many[plan] = sum(counts) if counts else 1
    return many


def scripts_many(fleet, one, other):
    """Return the number of the shortest SCRIPTS from one PLAN to another."""
    return scripts_from(steps_between(fleet, one, other))[one]


def first_edit(edits, many, number):
    """Return the EDIT with which the SCRIPT with a number begins, and its number among those that do."""
    leases = list(edits)
    at = 0
    left = number
    while left >= many[edits[leases[at]]]:
        left = left - many[edits[leases[at]]]
        at += 1
    return leases[at], left


def script_at(fleet, one, other, number):
    """Return the shortest SCRIPT with a number, in the order of Python."""
    steps = steps_between(fleet, one, other)
    many = scripts_from(steps)
    if number >= many[one]:
        raise NoNumber(many[one])
    script = []
    plan = one
    left = number
    while steps[plan]:
        lease, left = first_edit(steps[plan], many, left)
        script.append(lease)
        plan = steps[plan][lease]
    return tuple(script)


def number_of_script(fleet, one, other, script):
    """Return the number of a shortest SCRIPT, in the order of Python."""
    steps = steps_between(fleet, one, other)
    many = scripts_from(steps)
    number = 0
    plan = one
    for lease in script:
        number = number + sum([many[behind] for edit, behind in steps[plan].items() if edit < lease])
        plan = steps[plan][lease]
    return number
