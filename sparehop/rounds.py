"""Rounds: edits of leases that share no stretch, done at once."""

from sparehop.differences import differences, is_difference
from sparehop.edits import can_be_edited, run
from sparehop.fleets import stretches_of
from sparehop.forms import are_edits, is_ascending
from sparehop.leading import leases_by_layers, refuse_barred
from sparehop.precedence import closures, comes_before, just_before, layers_of, numbers_of


def rounds_to(fleet, pins, one, other):
    """Return the fewest ROUNDS that lead from one PLAN to another."""
    refuse_barred(fleet, pins, one, other)
    return leases_by_layers(fleet, one, other)


def is_round(fleet, pins, plan, thing):
    """Tell whether a value is a ROUND in a PLAN."""
    if not are_edits(fleet, thing) or not thing or not is_ascending(thing):
        return False
    covered = [stretch for lease in thing for stretch in stretches_of(fleet, lease)]
    if len(set(covered)) < len(covered):
        return False
    return all([can_be_edited(fleet, plan, pins, lease) for lease in thing])


def are_rounds(fleet, pins, one, other, thing):
    """Tell whether a value is a tuple of ROUNDS that leads from one PLAN to another."""
    if not isinstance(thing, tuple):
        return False
    plan = one
    for leases in thing:
        if not is_round(fleet, pins, plan, leases):
            return False
        plan = run(fleet, plan, pins, leases)
    return plan == other


def fewest_rounds(fleet, one, other):
    """Return how many ROUNDS are needed from one PLAN to another, with no PINS."""
    return len(leases_by_layers(fleet, one, other))


def longest_row(fleet, one, other):
    """Return as many DIFFERENCES as ROUNDS are needed, each of which precedes the next one."""
    lot = differences(fleet, one, other)
    earlier = just_before(fleet, one, other, lot)
    row = []
    # Each DIFFERENCE is in the first layer behind all that precede it: so one of the layer before precedes it.
    for layer in reversed(layers_of(earlier)):
        numbers = [number for number in layer if not row or number in earlier[row[-1]]]
        row.append(numbers[0])
    return tuple([lot[number] for number in reversed(row)])


def is_row(fleet, one, other, thing):
    """Tell whether a value is a tuple of DIFFERENCES, each of which precedes the next one."""
    if not isinstance(thing, tuple) or not all([is_difference(fleet, one, other, part) for part in thing]):
        return False
    lot = differences(fleet, one, other)
    closed = closures(fleet, one, other, lot)
    numbers = numbers_of(lot, thing)
    return all([comes_before(closed, first, second) for first, second in zip(numbers, numbers[1:])])
