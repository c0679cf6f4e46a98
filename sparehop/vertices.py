"""A plan as a row of vertices of the tree, and the machines at a vertex."""

from sparehop.fleets import free_machine, hopping_before, machines_after, size
from sparehop.forms import is_reduced
from sparehop.words import joined, reduced


def vertex_in(fleet, plan, stretch):
    """Return the VERTEX of a PLAN in a stretch."""
    return reduced(hopping_before(fleet, plan, stretch))


def vertices_of(fleet, plan):
    """Return the VERTICES of a PLAN in all stretches, in order."""
    return tuple([vertex_in(fleet, plan, stretch) for stretch in range(size(fleet) + 1)])


def plan_by(fleet, vertices):
    """Return the PLAN whose VERTICES a value is, None if there is none."""
    if not isinstance(vertices, tuple) or len(vertices) != size(fleet) + 1:
        return None
    if not all([is_reduced(fleet, word) for word in vertices]) or vertices[0] != ():
        return None
    hops = []
    for number, service in enumerate(fleet[2]):
        before, behind = vertices[number], vertices[number + 1]
        if behind == joined(before, (service,)):
            hops.append(number)
        elif behind != before:
            return None
    return tuple(hops)


def machines_at(fleet, word):
    """Return the machines of all services, in order, after the steps of a WORD."""
    return machines_after(fleet, word)


def spare_at(fleet, word):
    """Return the machine that is free after the steps of a WORD."""
    return free_machine(machines_after(fleet, word))
