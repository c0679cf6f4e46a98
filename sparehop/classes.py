"""The plans of a class counted along the points through which they go, without going through them."""

from sparehop.errors import TooMany
from sparehop.fleets import leases_in, leases_of, size
from sparehop.vertices import machines_at, spare_at, vertices_of
from sparehop.words import joined, walk

MOST_POINTS = 4000


def pinned_in(fleet, pins, stretch):
    """Return the list of the services whose leases in a stretch are PINNED."""
    return [lease[0] for lease in leases_in(fleet, stretch) if lease[1] == 0 or lease in pins]


def fences_of(fleet, pins, plan):
    """Return the list with, for each stretch, a PLAN's VERTEX and the services over whose EDGES none may go."""
    return [(vertex, pinned_in(fleet, pins, stretch)) for stretch, vertex in enumerate(vertices_of(fleet, plan))]


def is_open(fence, word):
    """Tell whether the POINT of a word in the stretch of a fence is OPEN."""
    vertex, pinned = fence
    services = walk(vertex, word)
    return not any([service in services for service in pinned])


def hopped(fleet, number, word):
    """Return the REDUCED WORD to which a hop at a restart leads from a REDUCED WORD."""
    return joined(word, (fleet[2][number],))


def led_to(fleet, stretch, word):
    """Return the words of the POINTS to which a POINT LEADS: when its service stays, and when it hops."""
    return (word, hopped(fleet, stretch, word))


def points(fleet, pins, plan):
    """Return the list with, for each stretch, the words of the MET POINTS in it, ascending."""
    fences = fences_of(fleet, pins, plan)
    rows = [((),)]
    many = 1
    for number in range(size(fleet)):
        behind = {other: True for word in rows[number] for other in led_to(fleet, number, word)}
        rows.append(tuple(sorted([word for word in behind if is_open(fences[number + 1], word)])))
        many = many + len(rows[-1])
        if many > MOST_POINTS:
            raise TooMany(MOST_POINTS)
    return rows


def counted_on(fleet, rows):
    """Return what ways_on returns, from the words of the MET POINTS."""
    told = [{word: 1 for word in rows[-1]}]
    for stretch in reversed(range(size(fleet))):
        behind = told[-1]
        counts = {}
        for word in rows[stretch]:
            counts[word] = sum([behind.get(other, 0) for other in led_to(fleet, stretch, word)])
        told.append(counts)
    return told[::-1]


def counted_to(fleet, rows):
    """Return what ways_to returns, from the words of the MET POINTS."""
    told = [{(): 1}]
    for stretch in range(size(fleet)):
        counts = {word: 0 for word in rows[stretch + 1]}
        for word, many in told[-1].items():
            for other in led_to(fleet, stretch, word):
                if other in counts:
                    counts[other] = counts[other] + many
        told.append(counts)
    return told


def ways_on(fleet, pins, plan):
    """Return the list with, for each stretch, the dict from its MET POINTS' words to how many ROWS ON there are."""
    return counted_on(fleet, points(fleet, pins, plan))


def ways_to(fleet, pins, plan):
    """Return the list with, for each stretch, the dict from its MET POINTS' words to how many rows lead there."""
    return counted_to(fleet, points(fleet, pins, plan))


def many_plans(fleet, pins, plan):
    """Return the number of the PLANS in the CLASS of a PLAN."""
    return ways_on(fleet, pins, plan)[0][()]


def plans_through(fleet, pins, plan):
    """Return the list with, for each stretch, the dict from words to how many PLANS of the CLASS have them there.

    Only words are in it that some PLAN has.
    """
    rows = points(fleet, pins, plan)
    told = []
    for to, on in zip(counted_to(fleet, rows), counted_on(fleet, rows)):
        told.append({word: many * on[word] for word, many in to.items() if on[word] > 0})
    return told


def machine_at(fleet, word, service):
    """Return the machine on which a service runs at a word."""
    return machines_at(fleet, word)[fleet[0].index(service)]


def summed(couples):
    """Return the dict from the machines, ascending, to the sums of their numbers, from tuples of both."""
    sums = {}
    for machine, many in couples:
        sums[machine] = sums.get(machine, 0) + many
    return {machine: sums[machine] for machine in sorted(sums)}


def machine_counts(fleet, pins, plan, lease):
    """Return the dict from machines to the number of the PLANS of the CLASS in which the LEASE is on them."""
    service, begin = lease
    through = plans_through(fleet, pins, plan)[begin]
    return summed([(machine_at(fleet, word, service), many) for word, many in through.items()])


def spare_counts(fleet, pins, plan, stretch):
    """Return the dict from machines to the number of the PLANS of the CLASS in which they are SPARE in a stretch."""
    through = plans_through(fleet, pins, plan)[stretch]
    return summed([(spare_at(fleet, word), many) for word, many in through.items()])


def hop_counts(fleet, pins, plan):
    """Return the tuple with, for each restart, the number of the PLANS of the CLASS that hop there."""
    rows = points(fleet, pins, plan)
    to, on = counted_to(fleet, rows), counted_on(fleet, rows)
    told = []
    for number in range(size(fleet)):
        ways = [many * on[number + 1].get(hopped(fleet, number, word), 0) for word, many in to[number].items()]
        told.append(sum(ways))
    return tuple(told)


def frozen(fleet, pins, plan):
    """Return the LEASES that are on the same machine in all PLANS of the CLASS, ascending."""
    through = plans_through(fleet, pins, plan)
    told = []
    for lease in leases_of(fleet):
        service, begin = lease
        if len({machine_at(fleet, word, service) for word in through[begin]}) == 1:
            told.append(lease)
    return tuple(told)
