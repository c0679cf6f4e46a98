"""A fleet: its restarts, its leases and the stretches that they cover."""

from sparehop.errors import NoFleet, NoLease
from sparehop.forms import are_three_tuples, first_bad_place, first_bad_restart, first_bad_service, is_lease


def size(fleet):
    """Return the number of the restarts, which is the number of the last stretch, too."""
    return len(fleet[2])


def restarts_of(fleet, service):
    """Return the numbers of a service's restarts, ascending."""
    return tuple([number for number in range(size(fleet)) if fleet[2][number] == service])


def leases_of(fleet):
    """Return all LEASES, ascending."""
    leases = []
    for service in fleet[0]:
        leases.append((service, 0))
        leases.extend([(service, number + 1) for number in restarts_of(fleet, service)])
    return tuple(leases)


def lease_in(fleet, service, stretch):
    """Return the LEASE of a service that covers a stretch."""
    begins = [number + 1 for number in restarts_of(fleet, service) if number < stretch]
    return (service, max(begins, default=0))


def leases_in(fleet, stretch):
    """Return the LEASES that cover a stretch, ascending."""
    return tuple([lease_in(fleet, service, stretch) for service in fleet[0]])


def end_of(fleet, lease):
    """Return the END of a LEASE."""
    if not is_lease(fleet, lease):
        raise NoLease(lease)
    service, begin = lease
    ends = [number for number in restarts_of(fleet, service) if number >= begin]
    return min(ends, default=size(fleet))


def stretches_of(fleet, lease):
    """Return the stretches that a LEASE covers, ascending."""
    end = end_of(fleet, lease)
    return tuple(range(lease[1], end + 1))


def share(fleet, one, other):
    """Return the stretches that two LEASES both cover, ascending."""
    begin = max(one[1], other[1])
    end = min(end_of(fleet, one), end_of(fleet, other))
    return tuple(range(begin, end + 1))


def fleet_fault(thing):
    """Return the first fault of a value that is no FLEET, None for a FLEET."""
    if not are_three_tuples(thing):
        return ("form",)
    services, places, restarts = thing
    if not services:
        return ("services",)
    index = first_bad_service(services)
    if index is not None:
        return ("service", index)
    if len(places) != len(services):
        return ("places",)
    index = first_bad_place(services, places)
    if index is not None:
        return ("place", index)
    index = first_bad_restart(services, restarts)
    if index is not None:
        return ("restart", index)
    return None


def checked_fleet(thing):
    """Return a FLEET as it is; refuse any other value."""
    fault = fleet_fault(thing)
    if fault is not None:
        raise NoFleet(fault)
    return thing


def hopping_before(fleet, plan, stretch):
    """Return the services of the HOPS below a stretch, in order, each as often as it hops."""
    return tuple([fleet[2][number] for number in plan if number < stretch])


def free_machine(machines):
    """Return the machine on which no service runs."""
    every = range(len(machines) + 1)
    return sum(every) - sum(machines)


def machines_after(fleet, word):
    """Return the machines of the services after these services have changed to the free one, one by one."""
    machines = list(fleet[1])
    for service in word:
        machines[fleet[0].index(service)] = free_machine(machines)
    return tuple(machines)
