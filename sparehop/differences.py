"""The differences from one plan to another: the edges over which their leases have to go."""

from sparehop.fleets import leases_in, size
from sparehop.forms import is_edge, is_lease, is_pair
from sparehop.vertices import plan_by, vertex_in, vertices_of
from sparehop.words import far_end, is_on_way, nearest, way


def differences_in(fleet, one, other, stretch):
    """Return the list of the DIFFERENCES whose leases cover a stretch, in the order of the WAY there."""
    leases = {lease[0]: lease for lease in leases_in(fleet, stretch)}
    edges = way(vertex_in(fleet, one, stretch), vertex_in(fleet, other, stretch))
    return [(leases[edge[1]], edge) for edge in edges]


def differences(fleet, one, other):
    """Return all DIFFERENCES from one PLAN to another, ascending."""
    lot = []
    # Each DIFFERENCE is met in all stretches of its lease: it is taken in the first one.
    for stretch in range(1, size(fleet) + 1):
        lot.extend([difference for difference in differences_in(fleet, one, other, stretch)
                    if difference[0][1] == stretch])
    return tuple(sorted(lot))


def is_difference(fleet, one, other, thing):
    """Tell whether a value is a DIFFERENCE from one PLAN to another."""
    if not is_pair(thing):
        return False
    lease, edge = thing
    if not is_lease(fleet, lease) or not is_edge(fleet, edge) or edge[1] != lease[0]:
        return False
    return is_on_way(vertex_in(fleet, one, lease[1]), vertex_in(fleet, other, lease[1]), edge)


def with_differences(fleet, plan, lot):
    """Return the PLAN whose DIFFERENCES from a PLAN are exactly those in lot, None if there is none."""
    vertices = []
    for stretch, vertex in enumerate(vertices_of(fleet, plan)):
        leases = leases_in(fleet, stretch)
        edges = [edge for lease, edge in lot if lease in leases]
        vertices.append(nearest(vertex, [(edge, far_end(vertex, edge)) for edge in edges]))
    # If there is such a PLAN, these are its VERTICES; but they may belong to a PLAN with other DIFFERENCES.
    other = plan_by(fleet, tuple(vertices))
    if other is None or differences(fleet, plan, other) != lot:
        return None
    return other
