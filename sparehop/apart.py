"""How far two plans are apart, lease by lease and in all."""

from sparehop.fleets import leases_of
from sparehop.vertices import vertex_in
from sparehop.words import walk


def apart(fleet, one, other, lease):
    """Return APART of two PLANS for a LEASE."""
    service, begin = lease
    return walk(vertex_in(fleet, one, begin), vertex_in(fleet, other, begin)).count(service)


def aparts(fleet, one, other):
    """Return the dict from the LEASES for which APART is not 0 to it."""
    told = {lease: apart(fleet, one, other, lease) for lease in leases_of(fleet)}
    return {lease: many for lease, many in told.items() if many > 0}


def distance(fleet, one, other):
    """Return the DISTANCE of two PLANS."""
    return sum([apart(fleet, one, other, lease) for lease in leases_of(fleet)])
