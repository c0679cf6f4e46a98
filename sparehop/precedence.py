"""Which differences come before which others, and the sets that are closed under this."""

from sparehop.differences import differences, differences_in, is_difference
from sparehop.fleets import share, size


def directly_precedes(fleet, one, other, first, second):
    """Tell whether a DIFFERENCE DIRECTLY PRECEDES another one."""
    shared = share(fleet, first[0], second[0])
    if not shared:
        return False
    # In all stretches that they share the two stand in the same order.
    row = differences_in(fleet, one, other, shared[0])
    return row.index(first) < row.index(second)


def just_before(fleet, one, other, lot):
    """Return for each DIFFERENCE the list of the numbers of those that come right before it in some stretch.

    lot has all DIFFERENCES, and numbers them. Those that precede one are the ones from which rows of
    such steps lead to it.
    """
    earlier = [[] for _ in lot]
    for stretch in range(size(fleet) + 1):
        row = numbers_of(lot, differences_in(fleet, one, other, stretch))
        for before, number in zip(row, row[1:]):
            if before not in earlier[number]:
                earlier[number].append(before)
    return earlier


def turned_round(earlier):
    """Return for each number the list of those that have it in their lists."""
    later = [[] for _ in earlier]
    for number, befores in enumerate(earlier):
        for before in befores:
            later[before].append(number)
    return later


def layers_of(earlier):
    """Return a list of ascending lists of all numbers, each number as early as possible.

    Each one comes in a later list than those in its own list in earlier.
    """
    later = turned_round(earlier)
    missing = [len(befores) for befores in earlier]
    layers = []
    layer = [number for number, many in enumerate(missing) if many == 0]
    while layer:
        layers.append(layer)
        following = []
        for before in layer:
            for number in later[before]:
                missing[number] -= 1
                if missing[number] == 0:
                    following.append(number)
        layer = sorted(following)
    return layers


def closures(fleet, one, other, lot):
    """Return for each DIFFERENCE the integer whose bits are the numbers of it and of those that precede it.

    lot has all DIFFERENCES, and numbers them.
    """
    # Far apart PLANS have millions of couples that precede one another: integers hold them as bits.
    earlier = just_before(fleet, one, other, lot)
    closed = [1 << number for number in range(len(lot))]
    for layer in layers_of(earlier):
        for number in layer:
            for before in earlier[number]:
                closed[number] = closed[number] | closed[before]
    return closed


def numbers_of(lot, part):
    """Return the list of the numbers that items of lot, which numbers them, have there."""
    numbers = {item: number for number, item in enumerate(lot)}
    return [numbers[item] for item in part]


def chosen(lot, bits):
    """Return the tuple of the items whose numbers are bits of an integer."""
    return tuple([item for number, item in enumerate(lot) if bits >> number & 1])


def comes_before(closed, first, second):
    """Tell whether the DIFFERENCE with the first number PRECEDES that with the second one, by closures."""
    return first != second and closed[second] >> first & 1 == 1


def precedes(fleet, one, other, first, second):
    """Tell whether a DIFFERENCE PRECEDES another one."""
    lot = differences(fleet, one, other)
    return comes_before(closures(fleet, one, other, lot), lot.index(first), lot.index(second))


def preceding(fleet, one, other):
    """Return the dict from each DIFFERENCE to those that precede it, ascending."""
    lot = differences(fleet, one, other)
    closed = closures(fleet, one, other, lot)
    return {item: chosen(lot, closed[number] - (1 << number)) for number, item in enumerate(lot)}


def free_differences(fleet, one, other):
    """Return the DIFFERENCES that none precedes, ascending."""
    lot = differences(fleet, one, other)
    earlier = just_before(fleet, one, other, lot)
    return tuple([difference for difference, befores in zip(lot, earlier) if not befores])


def are_closed(fleet, one, other, thing):
    """Tell whether a value is the ascending tuple of a CLOSED set of DIFFERENCES."""
    if not isinstance(thing, tuple) or not all([is_difference(fleet, one, other, part) for part in thing]):
        return False
    return closed_with(fleet, one, other, thing) == thing


def closed_with(fleet, one, other, lot):
    """Return these DIFFERENCES and all that precede some of them, ascending."""
    every = differences(fleet, one, other)
    closed = closures(fleet, one, other, every)
    bits = 0
    for number in numbers_of(every, lot):
        bits = bits | closed[number]
    return chosen(every, bits)


def opened_with(fleet, one, other, lot):
    """Return these DIFFERENCES and all that some of them precede, ascending."""
    every = differences(fleet, one, other)
    closed = closures(fleet, one, other, every)
    bits = sum([1 << number for number in numbers_of(every, lot)])
    return tuple([every[number] for number in range(len(every)) if closed[number] & bits])
