"""Plans that come of one base merged, and differences taken back."""

from sparehop.differences import differences, differences_in, with_differences
from sparehop.errors import NoMerge
from sparehop.fleets import share, size
from sparehop.leading import script_to
from sparehop.medians import median
from sparehop.precedence import numbers_of, opened_with
from sparehop.vertices import plan_by, vertex_in, vertices_of
from sparehop.words import common_length, far_end, is_on_way, joined, walk


def quarrel(fleet, base, first, second):
    """Tell whether two DIFFERENCES from base quarrel."""
    shared = share(fleet, first[0], second[0])
    if not shared:
        return False
    # base crosses neither EDGE while its lease lasts: so it is the same in all stretches that they share.
    vertex = vertex_in(fleet, base, shared[0])
    if is_on_way(vertex, far_end(vertex, first[1]), second[1]):
        return False
    return not is_on_way(vertex, far_end(vertex, second[1]), first[1])


def quarrels(fleet, base, one, other):
    """Return the tuples of a DIFFERENCE from base to one and one from base to other that quarrel, ascending."""
    firsts, seconds = differences(fleet, base, one), differences(fleet, base, other)
    couples = {}
    for stretch in range(size(fleet) + 1):
        row = differences_in(fleet, base, one, stretch)
        other_row = differences_in(fleet, base, other, stretch)
        # Two WAYS from one VERTEX part once and never meet again: behind that all quarrel with all.
        bend = common_length(row, other_row)
        for first in numbers_of(firsts, row[bend:]):
            for second in numbers_of(seconds, other_row[bend:]):
                couples[(first, second)] = True
    return tuple([(firsts[first], seconds[second]) for first, second in sorted(couples)])


def walks_from(fleet, base, plan):
    """Return the list of the services of the WAYS from base to a PLAN, stretch by stretch."""
    return [walk(one, other) for one, other in zip(vertices_of(fleet, base), vertices_of(fleet, plan))]


def do_part(walks, other_walks):
    """Tell whether two lists of walks go different ways in some stretch: then some DIFFERENCES quarrel."""
    return any([common_length(one, other) < min(len(one), len(other)) for one, other in zip(walks, other_walks)])


def first_parting(rows):
    """Return the least index of a list of walks that parts from another one of them, None if none does."""
    parting = []
    for walks in zip(*rows):
        longest = max(walks, key=len)
        bends = [common_length(one, longest) for one in walks]
        # Up to the first bend all go together: what goes on there parts from what bends there.
        first_bend = min([bend for bend, one in zip(bends, walks) if bend < len(one)], default=len(longest))
        parting.extend([index for index, one in enumerate(walks) if len(one) > first_bend])
    return min(parting, default=None)


def merged_all(fleet, base, plans):
    """Return the PLAN whose DIFFERENCES from base are all those from base to one of the PLANS."""
    rows = [walks_from(fleet, base, plan) for plan in plans]
    one = first_parting(rows)
    if one is not None:
        # None before it parts from any: so the first one from which it parts stands behind it.
        other = min([index for index in range(len(rows)) if do_part(rows[one], rows[index])])
        raise NoMerge(quarrels(fleet, base, plans[one], plans[other])[0])
    # Where no WAYS part, each one is the beginning of the longest.
    vertices = []
    for stretch, vertex in enumerate(vertices_of(fleet, base)):
        longest = max([(), *[row[stretch] for row in rows]], key=len)
        vertices.append(joined(vertex, longest))
    return plan_by(fleet, tuple(vertices))


def merged(fleet, base, one, other):
    """Return the PLAN whose DIFFERENCES from base are those of one and those of other together."""
    return merged_all(fleet, base, (one, other))


def common(fleet, base, one, other):
    """Return the PLAN whose DIFFERENCES from base are those that one and other have in common."""
    return median(fleet, base, one, other)


def rebased(fleet, base, one, other):
    """Return a shortest SCRIPT, with no PINS, from one to what one and other merge to."""
    return script_to(fleet, (), one, merged(fleet, base, one, other))


def without(items, others):
    """Return the tuple of the items that are not among the others."""
    left_out = {item: True for item in others}
    return tuple([item for item in items if item not in left_out])


def taken_back(fleet, base, one, lot):
    """Return the PLAN whose DIFFERENCES from base are those of one without lot and all that lot precedes."""
    kept = without(differences(fleet, base, one), opened_with(fleet, base, one, lot))
    return with_differences(fleet, base, kept)


def also_taken_back(fleet, base, one, lot):
    """Return the DIFFERENCES that some of lot precede, but that are not in lot, ascending."""
    return without(opened_with(fleet, base, one, lot), lot)
