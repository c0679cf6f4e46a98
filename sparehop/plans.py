"""A plan: on which machines the services run, and which one is spare."""

from sparehop.errors import NoLease
from sparehop.fleets import free_machine, hopping_before, machines_after, size
from sparehop.forms import is_lease


def machines_in(fleet, plan, stretch):
    """Return the machines on which the services run in a stretch, in the order of the services."""
    return machines_after(fleet, hopping_before(fleet, plan, stretch))


def machine_in(fleet, plan, service, stretch):
    """Return the machine on which a service runs in a stretch."""
    return machines_in(fleet, plan, stretch)[fleet[0].index(service)]


def spare_in(fleet, plan, stretch):
    """Return the machine that is SPARE in a stretch."""
    return free_machine(machines_in(fleet, plan, stretch))


def spares_of(fleet, plan):
    """Return the SPARE machines in all stretches, in order."""
    return tuple([spare_in(fleet, plan, stretch) for stretch in range(size(fleet) + 1)])


def machine_of(fleet, plan, lease):
    """Return the machine of a LEASE."""
    if not is_lease(fleet, lease):
        raise NoLease(lease)
    service, begin = lease
    return machine_in(fleet, plan, service, begin)
