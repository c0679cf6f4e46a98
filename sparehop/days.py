"""Time that passes: what has begun cannot be edited any more, so edits have their last stretches."""

from sparehop.apart import aparts
from sparehop.differences import differences
from sparehop.errors import NoTime
from sparehop.fleets import leases_of, size
from sparehop.forms import are_edits
from sparehop.leading import is_shortest, leads, refuse_barred
from sparehop.precedence import just_before, layers_of, turned_round


def begun_pins(fleet, pins, now):
    """Return the PINS that hold in a stretch: all of pins, and all leases that have begun."""
    return tuple([lease for lease in leases_of(fleet) if lease in pins or 0 < lease[1] <= now])


def leads_at(fleet, pins, one, other, now):
    """Tell whether a SCRIPT leads from one PLAN to another in a stretch."""
    return leads(fleet, begun_pins(fleet, pins, now), one, other)


def last_stretch(fleet, pins, one, other):
    """Return the greatest number of a stretch in which a SCRIPT leads from one PLAN to another."""
    refuse_barred(fleet, pins, one, other)
    begins = [begin for _, begin in aparts(fleet, one, other)]
    return min(begins, default=size(fleet) + 1) - 1


def due_rows(fleet, one, other):
    """Return the list of the tuples of the stretch in which a DIFFERENCE is DUE, its layer, its number, and itself.

    The numbers are those of the DIFFERENCES in ascending order; in a later layer are those that are preceded.
    """
    lot = differences(fleet, one, other)
    earlier = just_before(fleet, one, other, lot)
    later = turned_round(earlier)
    layers = layers_of(earlier)
    due = [lease[1] - 1 for lease, _ in lot]
    for layer in reversed(layers):
        for number in layer:
            due[number] = min([due[number], *[due[behind] for behind in later[number]]])
    return [(due[number], at, number, lot[number]) for at, layer in enumerate(layers) for number in layer]


def due_stretches(fleet, one, other):
    """Return the dict from the DIFFERENCES to the stretches in which they are DUE."""
    told = {row[3]: row[0] for row in due_rows(fleet, one, other)}
    return {item: told[item] for item in sorted(told)}


def is_timetable(fleet, pins, one, other, now, most, thing):
    """Tell whether a value is a TIMETABLE from one PLAN to another."""
    if not isinstance(thing, tuple) or len(thing) != size(fleet) - now + 1:
        return False
    for passed, edits in enumerate(thing):
        if not are_edits(fleet, edits) or len(edits) > most:
            return False
        if not all([begin > now + passed for _, begin in edits]):
            return False
    script = tuple([lease for edits in thing for lease in edits])
    return is_shortest(fleet, begun_pins(fleet, pins, now), one, other, script)


def due_counts(fleet, one, other, now):
    """Return the list with, for each stretch from now on, the number of DIFFERENCES DUE in it or before."""
    dues = [row[0] for row in due_rows(fleet, one, other)]
    return [len([due for due in dues if due <= stretch]) for stretch in range(now, size(fleet) + 1)]


def timetable(fleet, pins, one, other, now, most):
    """Return the TIMETABLE with EDITS as early as possible."""
    refuse_barred(fleet, begun_pins(fleet, pins, now), one, other)
    for passed, many in enumerate(due_counts(fleet, one, other, now)):
        if many > most * (passed + 1):
            raise NoTime(now + passed)
    # None is DUE behind what it precedes; and where two are DUE at once, the layers tell which one comes first.
    leases = [row[3][0] for row in sorted(due_rows(fleet, one, other))]
    days = range(size(fleet) - now + 1)
    return tuple([tuple(leases[day * most:(day + 1) * most]) for day in days])


def least_most(fleet, pins, one, other, now):
    """Return the least number of EDITS in a stretch with which there is a TIMETABLE."""
    refuse_barred(fleet, begun_pins(fleet, pins, now), one, other)
    counts = due_counts(fleet, one, other, now)
    # The quotients are rounded up: what is left over needs one EDIT more on some day.
    return max([(many + passed) // (passed + 1) for passed, many in enumerate(counts)])
