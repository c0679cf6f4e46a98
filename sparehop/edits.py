"""Edits of a plan, one lease at a time, and scripts of them."""

from sparehop.errors import NoEdit
from sparehop.fleets import end_of, leases_of, size
from sparehop.forms import are_edits, is_lease


def span_of(fleet, lease):
    """Return the begin and the END of a LEASE."""
    return (lease[1], end_of(fleet, lease))


def stands_still(plan, span):
    """Tell whether the same machine is SPARE from a begin to an END: no HOP is in between."""
    begin, end = span
    return not any([begin <= number < end for number in plan])


def can_be_edited(fleet, plan, pins, lease):
    """Tell whether a value is an EDIT that can be done in a PLAN."""
    if not is_lease(fleet, lease) or lease[1] == 0 or lease in pins:
        return False
    return stands_still(plan, span_of(fleet, lease))


def edits_of(fleet, plan, pins):
    """Return all EDITS that can be done in a PLAN, ascending."""
    return tuple([lease for lease in leases_of(fleet) if can_be_edited(fleet, plan, pins, lease)])


def turned(fleet, plan, span):
    """Return the PLAN to which an EDIT that can be done leads, of a LEASE with this begin and END."""
    # The lease changes to the spare machine: so a hop at a border of it becomes a stay, and a stay a hop.
    borders = (span[0] - 1, span[1])
    kept = [number for number in plan if number not in borders]
    added = [number for number in borders if number < size(fleet) and number not in plan]
    return tuple(sorted(kept + added))


def edited(fleet, plan, pins, lease):
    """Return the PLAN to which an EDIT leads; refuse a value that is none that can be done."""
    if not can_be_edited(fleet, plan, pins, lease):
        raise NoEdit(0)
    return turned(fleet, plan, span_of(fleet, lease))


def traced(fleet, plan, pins, script):
    """Return the PLANS before the first EDIT of a SCRIPT and behind each one."""
    plans = [plan]
    for index, lease in enumerate(script):
        if not can_be_edited(fleet, plans[-1], pins, lease):
            raise NoEdit(index)
        plans.append(turned(fleet, plans[-1], span_of(fleet, lease)))
    return tuple(plans)


def run(fleet, plan, pins, script):
    """Return the PLAN behind all EDITS of a SCRIPT."""
    return traced(fleet, plan, pins, script)[-1]


def is_script(fleet, plan, pins, thing):
    """Tell whether a value is a SCRIPT for a PLAN."""
    if not are_edits(fleet, thing):
        return False
    try:
        run(fleet, plan, pins, thing)
    except NoEdit:
        return False
    return True


def takes_back(script):
    """Return the same EDITS from the last to the first."""
    return script[::-1]
