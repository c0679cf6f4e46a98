"""One restart more in a fleet, or one less, and what comes of its plans, leases and pins."""

from sparehop.fleets import lease_in


def with_restart(fleet, number, service):
    """Return the FLEET with one restart more, of a service, that has this number."""
    services, places, restarts = fleet
    return (services, places, (*restarts[:number], service, *restarts[number:]))


def plan_with(plan, number):
    """Return the PLAN of the FLEET with one restart more that does not hop there, but as before otherwise."""
    return tuple([hop if hop < number else hop + 1 for hop in plan])


def lease_with(fleet, number, service, lease):
    """Return the LEASES of the FLEET with one restart more that cover the time of a LEASE, ascending."""
    # A lease begins right behind a restart: so its begin goes up with those that get higher numbers.
    begin = lease[1] if lease[1] <= number else lease[1] + 1
    if lease == lease_in(fleet, service, number):
        return ((service, begin), (service, number + 1))
    return ((lease[0], begin),)


def pins_with(fleet, pins, number, service):
    """Return the PINS of the FLEET with one restart more that come of PINS."""
    # The new leases are in the order of the old ones.
    return tuple([part for lease in pins for part in lease_with(fleet, number, service, lease)])


def without_restart(fleet, number):
    """Return the FLEET without one restart."""
    services, places, restarts = fleet
    return (services, places, restarts[:number] + restarts[number + 1:])


def plan_without(plan, number):
    """Return the PLAN of the FLEET without a restart at which it does not hop, that hops as before otherwise."""
    return tuple([hop if hop < number else hop - 1 for hop in plan])


def lease_without(fleet, number, lease):
    """Return the LEASE of the FLEET without one restart that covers all the time of a LEASE."""
    service, begin = lease
    if begin == number + 1:
        # It began at this restart: the lease before it goes on.
        return lease_in(fleet, service, number)
    return (service, begin if begin <= number else begin - 1)


def pins_without(fleet, pins, number):
    """Return the PINS of the FLEET without one restart that come of PINS."""
    leases = [lease_without(fleet, number, lease) for lease in pins]
    return tuple(sorted({lease for lease in leases if lease[1] > 0}))
