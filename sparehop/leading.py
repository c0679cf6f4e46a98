"""Which plans can be reached from which, with the fewest edits; and the plain way beside it."""

from sparehop.apart import apart, distance
from sparehop.differences import differences
from sparehop.edits import is_script, run, span_of, stands_still, turned
from sparehop.errors import NoWay, TooMany
from sparehop.fleets import leases_of
from sparehop.precedence import just_before, layers_of

MOST_PLANS = 2000


def barring(fleet, pins, one, other):
    """Return the PINS for which APART is not 0, ascending."""
    return tuple([lease for lease in pins if apart(fleet, one, other, lease) > 0])


def leads(fleet, pins, one, other):
    """Tell whether a SCRIPT leads from one PLAN to another."""
    return len(barring(fleet, pins, one, other)) == 0


def refuse_barred(fleet, pins, one, other):
    """Refuse two PLANS if no SCRIPT leads from the one to the other."""
    barred = barring(fleet, pins, one, other)
    if barred:
        raise NoWay(barred[0])


def leases_by_layers(fleet, one, other):
    """Return a tuple of ascending tuples of LEASES, to be edited one tuple behind the other.

    No two LEASES in one of them share a stretch, as otherwise one would precede the other.
    """
    lot = differences(fleet, one, other)
    layers = layers_of(just_before(fleet, one, other, lot))
    return tuple([tuple([lot[number][0] for number in layer]) for layer in layers])


def script_to(fleet, pins, one, other):
    """Return a shortest SCRIPT from one PLAN to another."""
    refuse_barred(fleet, pins, one, other)
    return tuple([lease for leases in leases_by_layers(fleet, one, other) for lease in leases])


def leads_by(fleet, pins, one, other, thing):
    """Tell whether a value is a SCRIPT from one PLAN to another."""
    return is_script(fleet, one, pins, thing) and run(fleet, one, pins, thing) == other


def is_shortest(fleet, pins, one, other, thing):
    """Tell whether a value is a shortest SCRIPT from one PLAN to another."""
    return leads_by(fleet, pins, one, other, thing) and len(thing) == distance(fleet, one, other)


def shortened(fleet, pins, plan, script):
    """Return a shortest SCRIPT to the PLAN to which a SCRIPT leads."""
    return script_to(fleet, pins, plan, run(fleet, plan, pins, script))


def edits_needed(fleet, pins, plan):
    """Return the dict from all PLANS of a CLASS to how many EDITS lead to them, found by doing EDITS."""
    spans = [span_of(fleet, lease) for lease in leases_of(fleet) if lease[1] > 0 and lease not in pins]
    needed = {plan: 0}
    layer = [plan]
    while layer:
        following = []
        for before in layer:
            for span in [each for each in spans if stands_still(before, each)]:
                behind = turned(fleet, before, span)
                if behind not in needed:
                    needed[behind] = needed[before] + 1
                    following.append(behind)
            if len(needed) > MOST_PLANS:
                raise TooMany(MOST_PLANS)
        layer = following
    return needed


def class_of(fleet, pins, plan):
    """Return the PLANS in the CLASS of a PLAN, ascending."""
    return tuple(sorted(edits_needed(fleet, pins, plan)))


def fewest_edits(fleet, pins, one, other):
    """Return the number of EDITS of a shortest SCRIPT, None if none leads, found by doing EDITS."""
    return edits_needed(fleet, pins, one).get(other)
