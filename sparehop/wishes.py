"""Wishes for a plan: on which machine a service runs, which one is spare, where no hop is."""

from sparehop.fleets import free_machine, size
from sparehop.forms import is_integer_within, is_service
from sparehop.plans import machine_in, spare_in
from sparehop.vertices import machines_at

MOST_WISHES = 40


def is_machine(fleet, thing):
    """Tell whether a value is a machine of the FLEET."""
    return is_integer_within(thing, 0, len(fleet[0]))


def is_wish(fleet, thing):
    """Tell whether a value is a WISH for the FLEET."""
    if not isinstance(thing, tuple) or not thing or not isinstance(thing[0], str):
        return False
    word, last = thing[0], size(fleet)
    if word == "stay":
        return len(thing) == 2 and is_integer_within(thing[1], 0, last - 1)
    if len(thing) != 4:
        return False
    if word == "spare":
        return (is_machine(fleet, thing[1]) and is_integer_within(thing[2], 0, last)
                and is_integer_within(thing[3], thing[2], last))
    if word not in ("on", "off"):
        return False
    return is_service(fleet, thing[1]) and is_integer_within(thing[2], 0, last) and is_machine(fleet, thing[3])


def are_wishes(fleet, thing):
    """Tell whether a value is WISHES for the FLEET."""
    if not isinstance(thing, tuple) or len(thing) > MOST_WISHES:
        return False
    return all([is_wish(fleet, wish) for wish in thing])


def is_granted(fleet, plan, wish):
    """Tell whether a PLAN GRANTS a WISH."""
    if wish[0] == "stay":
        return wish[1] not in plan
    if wish[0] == "spare":
        return all([spare_in(fleet, plan, stretch) == wish[1] for stretch in range(wish[2], wish[3] + 1)])
    runs_there = machine_in(fleet, plan, wish[1], wish[2]) == wish[3]
    return runs_there == (wish[0] == "on")


def missed(fleet, plan, wishes):
    """Return the indexes of those WISHES that a PLAN does not GRANT, ascending."""
    return tuple([index for index, wish in enumerate(wishes) if not is_granted(fleet, plan, wish)])


def suits_wish(fleet, machines, stretch, wish):
    """Tell whether services that run on these machines in a stretch do there what a WISH says."""
    if wish[0] == "stay":
        return True
    if wish[0] == "spare":
        return not wish[2] <= stretch <= wish[3] or free_machine(machines) == wish[1]
    runs_there = machines[fleet[0].index(wish[1])] == wish[3]
    return wish[2] != stretch or runs_there == (wish[0] == "on")


def suits(fleet, wishes, stretch, word):
    """Tell whether a POINT SUITS the WISHES."""
    machines = machines_at(fleet, word)
    return all([suits_wish(fleet, machines, stretch, wish) for wish in wishes])


def may_hop(wishes, number):
    """Tell whether the WISHES let a restart be among the HOPS."""
    return ("stay", number) not in wishes
