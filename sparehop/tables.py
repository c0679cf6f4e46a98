"""Tables: a plan told by the machines of its leases."""

from sparehop.errors import NoTable
from sparehop.fleets import lease_in, leases_in, leases_of, size
from sparehop.forms import has_leases_as_keys, is_integer_within
from sparehop.plans import machine_of


def table_of(fleet, plan):
    """Return the TABLE of a PLAN."""
    return {lease: machine_of(fleet, plan, lease) for lease in leases_of(fleet)}


def first_bad_machine(fleet, table):
    """Return the least LEASE whose value is no machine, None if there is none."""
    for lease in leases_of(fleet):
        if not is_integer_within(table[lease], 0, len(fleet[0])):
            return lease
    return None


def first_misplaced(fleet, table):
    """Return the least FIRST lease whose value is not its place, None if there is none."""
    for service, place in zip(fleet[0], fleet[1]):
        if table[(service, 0)] != place:
            return (service, 0)
    return None


def first_doubled(fleet, table):
    """Return the least stretch in which two leases have equal machines, None if there is none."""
    for stretch in range(size(fleet) + 1):
        machines = [table[lease] for lease in leases_in(fleet, stretch)]
        if len(set(machines)) < len(machines):
            return stretch
    return None


def table_fault(fleet, thing):
    """Return the first fault of a value that is no TABLE, None for a TABLE."""
    if not has_leases_as_keys(fleet, thing):
        return ("form",)
    lease = first_bad_machine(fleet, thing)
    if lease is not None:
        return ("machine", lease)
    lease = first_misplaced(fleet, thing)
    if lease is not None:
        return ("first", lease)
    stretch = first_doubled(fleet, thing)
    if stretch is not None:
        return ("twice", stretch)
    return None


def is_table(fleet, thing):
    """Tell whether a value is a TABLE."""
    return table_fault(fleet, thing) is None


def plan_of(fleet, thing):
    """Return the PLAN to which a TABLE belongs; refuse any other value."""
    fault = table_fault(fleet, thing)
    if fault is not None:
        raise NoTable(fault)
    hops = []
    for number, service in enumerate(fleet[2]):
        if thing[lease_in(fleet, service, number)] != thing[(service, number + 1)]:
            hops.append(number)
    return tuple(hops)
