"""The cheapest plans that grant wishes, and the heights that show that none is cheaper."""

from sparehop.classes import fences_of, hopped, is_open, led_to, points
from sparehop.errors import NoGrant
from sparehop.fleets import leases_of, size
from sparehop.forms import is_integer, is_integer_within, is_pair, is_reduced
from sparehop.leading import barring
from sparehop.vertices import vertex_in
from sparehop.wishes import may_hop, suits
from sparehop.words import walk


def toll(fleet, plan, prices, stretch, word):
    """Return the TOLL of a POINT."""
    if stretch == 0:
        return 0
    service = fleet[2][stretch - 1]
    return prices[(service, stretch)] * walk(vertex_in(fleet, plan, stretch), word).count(service)


def led_on_to(fleet, fences, wishes, stretch, word):
    """Return the list of the words of the POINTS to which a POINT LEADS ON."""
    others = led_to(fleet, stretch, word) if may_hop(wishes, stretch) else (word,)
    open_ones = [other for other in others if is_open(fences[stretch + 1], other)]
    return [other for other in open_ones if suits(fleet, wishes, stretch + 1, other)]


def ways_of_wishes(fleet, pins, plan, wishes):
    """Return the list with, for each stretch, the dict from words to the lists of those to which they LEAD ON.

    In it are, ascending, all words to which ways from (0, ()) lead; none, if this does not SUIT the WISHES.
    """
    # Only for its error: it bounds the POINTS to be looked at.
    points(fleet, pins, plan)
    fences = fences_of(fleet, pins, plan)
    ways = []
    words = [()] if suits(fleet, wishes, 0, ()) else []
    for stretch in range(size(fleet)):
        ways.append({word: led_on_to(fleet, fences, wishes, stretch, word) for word in words})
        words = sorted({other for others in ways[-1].values() for other in others})
    ways.append({word: [] for word in words})
    return ways


def tolls_of(fleet, plan, prices, ways):
    """Return the list with, for each stretch, the dict from the words in ways to their TOLLS."""
    return [{word: toll(fleet, plan, prices, stretch, word) for word in row} for stretch, row in enumerate(ways)]


def least_sums(ways, tolls):
    """Return the list with, for each stretch, the dict from words to the least sum of TOLLS up to the last one.

    It is None where no way leads to the last stretch.
    """
    told = [{word: tolls[-1][word] for word in ways[-1]}]
    for stretch in reversed(range(len(ways) - 1)):
        behind = told[-1]
        row = {}
        for word, others in ways[stretch].items():
            known = [behind[other] for other in others if behind[other] is not None]
            row[word] = tolls[stretch][word] + min(known) if known else None
        told.append(row)
    return told[::-1]


def heights(fleet, pins, plan, wishes, prices):
    """Return the HEIGHTS that tell the least sums of TOLLS from the POINTS to which ways lead."""
    ways = ways_of_wishes(fleet, pins, plan, wishes)
    sums = least_sums(ways, tolls_of(fleet, plan, prices, ways))
    told = {(0, ()): None}
    for stretch, row in enumerate(sums):
        for word, height in row.items():
            told[(stretch, word)] = height
    return told


def is_point(fleet, thing):
    """Tell whether a value is a POINT."""
    return is_pair(thing) and is_integer_within(thing[0], 0, size(fleet)) and is_reduced(fleet, thing[1])


def is_high_enough(height, charge, behind):
    """Tell whether a height is right ahead of those behind it, of a POINT with this TOLL."""
    known = [other for other in behind if other is not None]
    if height is None:
        return not known
    return all([height <= charge + other for other in known])


def is_heights(fleet, pins, plan, wishes, prices, thing):
    """Tell whether a value is HEIGHTS."""
    if not isinstance(thing, dict) or not all([is_point(fleet, key) for key in thing]) or (0, ()) not in thing:
        return False
    if not all([height is None or is_integer(height) for height in thing.values()]):
        return False
    fences = fences_of(fleet, pins, plan)
    for (stretch, word), height in thing.items():
        charge = toll(fleet, plan, prices, stretch, word)
        if not is_open(fences[stretch], word) or not suits(fleet, wishes, stretch, word):
            right = height is None
        elif stretch == size(fleet):
            right = height is not None and height <= charge
        else:
            keys = [(stretch + 1, other) for other in led_on_to(fleet, fences, wishes, stretch, word)]
            right = all([key in thing for key in keys]) and is_high_enough(height, charge, [thing[key] for key in keys])
        if not right:
            return False
    return True


def best_ways(ways, tolls, sums):
    """Return ways with only those words that lie on a way with the least sum."""
    best = []
    for stretch in range(len(ways) - 1):
        row = {}
        for word, others in ways[stretch].items():
            known = [other for other in others if sums[stretch + 1][other] is not None]
            left = {other: tolls[stretch][word] + sums[stretch + 1][other] for other in known}
            row[word] = [other for other in known if left[other] == sums[stretch][word]]
        best.append(row)
    return best


def least_plan(fleet, best):
    """Return the least PLAN that goes from (0, ()) by best ways."""
    told = []
    start, word = 0, ()
    while True:
        still = start
        while still < size(fleet) and word in best[still][word]:
            still += 1
        # The PLAN without more HOPS is the least one, then those with the least next HOP.
        if still == size(fleet):
            return tuple(told)
        hops = [number for number in range(start, still + 1) if hopped(fleet, number, word) in best[number][word]]
        told.append(hops[0])
        start, word = hops[0] + 1, hopped(fleet, hops[0], word)


def least_granting(fleet, ways, tolls):
    """Return the least of the PLANS that go by ways with the least sum of TOLLS; refuse if there is none."""
    sums = least_sums(ways, tolls)
    if sums[0].get(()) is None:
        raise NoGrant()
    return least_plan(fleet, best_ways(ways, tolls, sums))


def cheapest(fleet, pins, plan, wishes, prices):
    """Return the cheapest PLAN of the CLASS that GRANTS all WISHES, of several the least one."""
    ways = ways_of_wishes(fleet, pins, plan, wishes)
    return least_granting(fleet, ways, tolls_of(fleet, plan, prices, ways))


def lowest_price(fleet, pins, plan, wishes, prices):
    """Return the price of the cheapest PLAN of the CLASS that GRANTS all WISHES, None if there is none."""
    return heights(fleet, pins, plan, wishes, prices)[(0, ())]


def fewest_opened(fleet, pins, plan, wishes):
    """Return the fewest PINS to be taken out so that a PLAN can be reached that GRANTS all WISHES, and this PLAN."""
    ways = ways_of_wishes(fleet, (), plan, wishes)
    prices = {lease: 1 if lease in pins else 0 for lease in leases_of(fleet)}
    # Each of the PINS counts once, however far the two PLANS are apart for it.
    tolls = [{word: min(1, many) for word, many in row.items()} for row in tolls_of(fleet, plan, prices, ways)]
    other = least_granting(fleet, ways, tolls)
    return (barring(fleet, pins, plan, other), other)
