"""What the tests share: fleets, values of every kind, values with one part otherwise, and plain
ways to work out what the document defines, by which the program is measured."""

import copy
import functools
import itertools
import random
import re
import time

from sparehop.desk import Desk
from sparehop.errors import FleetError, NoEdit, NoGrant, NoLease, NoMerge, NoNumber, NoText, NoWay, Nothing
from sparehop.house import House

SMALL = (("a", "b"), (0, 1), ("a", "b", "a"))
ALONE = (("a",), (1,), ())
STILL = (("ab", "b", "web"), (3, 0, 2), ())
SOME = (("a", "b", "c"), (2, 0, 3), ("c", "a", "c", "c"))
LARGE = (tuple("abcdefgh"), (3, 1, 4, 0, 5, 8, 2, 6), tuple("abcdefgh"[k * k * 7 % 11 % 8] for k in range(60)))
FLEETS = (SMALL, ALONE, STILL, SOME, LARGE)


# --- values ---------------------------------------------------------------------------------------

def nested(kind, depth):
    """A value of one kind within itself."""
    thing = kind()
    for _ in range(depth - 1):
        thing = kind([thing])
    return thing


def every_kind():
    """Values of every kind that the document calls any values."""
    deep = {}
    for _ in range(19):
        deep = {"a": deep}
    return [
        None, True, False, 0, 1, -1, 2, 7, 10 ** 40 - 1, -(10 ** 40 - 1),
        "", "a", "b", "A", " ", "\n", "a b", "#", "0", "~" * 3000, "a" * 3000, "\n" * 3000, "1" * 3000,
        [], (), {}, [()], ((),), ([],), ((), (), ()), [(), (), ()], ((), (), []), (((), ()),),
        ("a",), ["a"], ("a", 0), ["a", 0], ("a", False), ("a", 1), ("a", True), ("a", "0"), (0, "a"), ("a", -1),
        ("a", 10 ** 40 - 1), ("a", None), (None, 0), ((), 0), ("a", 0, 0), (("a",), "b"), (("a",), True),
        (0,), (True,), (False,), (0, 1), (1, 0), (0, 0), (None,), ("",), (("a", 0),), (("a", 1), ("a", 1)),
        {"a": 0}, {("a", 0): 0}, {("a", False): 0}, {0: ("a", 0)}, {True: True}, {(): {}},
        nested(list, 20), nested(tuple, 20), deep,
        [0] * 3000, (0,) * 3000, ("a",) * 3000, tuple(range(3000)), {k: k for k in range(3000)},
        House(SMALL, (0,), ()), (House(SMALL, (), ()),), [House(ALONE, (), ())], {"a": House(SMALL, (), ())},
        (House(SMALL, (), ()), 0), ("a", House(SMALL, (), ())), Desk("service a 0", ""), (Desk("service a 0", ""),),
        FleetError(), NoEdit(0), NoText(0, 1), [NoEdit(0)], (NoEdit(0),), {NoEdit(0): NoEdit(0)}, (NoEdit(0), 0),
    ]


def replaced(thing):
    """Other values that could be taken for a thing, or stand close to it."""
    if isinstance(thing, tuple):
        return [list(thing), None, thing + ((),), (thing,), dict.fromkeys(range(len(thing)))]
    if isinstance(thing, list):
        return [tuple(thing), None]
    if isinstance(thing, dict):
        return [list(thing.items()), tuple(thing), None]
    if isinstance(thing, bool):
        return [int(thing), not thing]
    if isinstance(thing, int):
        truths = [bool(thing)] if thing in (0, 1) else []
        return [*truths, thing + 1, thing - 1, -1, str(thing), None, (thing,), 10 ** 40 - 1]
    if isinstance(thing, str):
        return [thing.upper(), thing + "a", thing * 13, "", "b", "zz", 0, None, (thing,), list(thing)]
    return [None]


def otherwise(thing):
    """All values with one part otherwise: exchanged, left out, doubled, added or swapped, at each depth."""
    yield from replaced(thing)
    if isinstance(thing, (tuple, list)):
        kind, items = type(thing), list(thing)
        for at, item in enumerate(items):
            for part in otherwise(item):
                yield kind([*items[:at], part, *items[at + 1:]])
            yield kind(items[:at] + items[at + 1:])
            yield kind(items[:at + 1] + items[at:])
            if at:
                yield kind([*items[:at - 1], item, items[at - 1], *items[at + 1:]])
        for part in (0, True, "a", (), None):
            yield kind([*items, part])
    if isinstance(thing, dict):
        for key in thing:
            rest = {other: thing[other] for other in thing if other != key}
            yield rest
            for part in otherwise(thing[key]):
                yield {**thing, key: part}
            for part in otherwise(key):
                if is_hashable(part):
                    yield {**rest, part: thing[key]}
                    yield {part: thing[key], **rest}
        for key in (None, 0, ("zz", 0), ()):
            yield {**thing, key: 0}


def is_hashable(thing):
    try:
        hash(thing)
    except TypeError:
        return False
    return True


def twice_otherwise(thing, many, seed):
    """Some values with two parts otherwise."""
    once = list(otherwise(thing))
    chosen = random.Random(seed)
    for _ in range(many):
        yield chosen.choice(list(otherwise(chosen.choice(once))))


def drawn_fleet(chosen, services, restarts):
    """A fleet with at most so many services and restarts."""
    count = chosen.randint(1, services)
    names = tuple(sorted(chosen.sample(["a", "b", "c", "web", "db", "mail", "abcdefghijkl", "z"], count)))
    places = tuple(chosen.sample(range(count + 1), count))
    return names, places, tuple(chosen.choice(names) for _ in range(chosen.randint(0, restarts)))


def drawn_fleets(many, services, restarts, seed):
    chosen = random.Random(seed)
    return [drawn_fleet(chosen, services, restarts) for _ in range(many)]


def drawn_part(chosen, items):
    """Some of the items, in their order."""
    share = chosen.random()
    return tuple(item for item in items if chosen.random() < share)


def drawn_prices(chosen, fleet, most=9):
    """Prices with their keys in any order, some of them 0."""
    leases = plain_leases(fleet)
    chosen.shuffle(leases)
    return {lease: chosen.choice((0, chosen.randint(0, most))) for lease in leases}


def drawn_pins(chosen, fleet):
    return drawn_part(chosen, later_leases(fleet))


def drawn_word(chosen, fleet, length):
    """A reduced word of services with at most so many items."""
    return plain_reduced(chosen.choice(fleet[0]) for _ in range(chosen.randint(0, length)))


def no_leases():
    """Couples of a fleet and a value that is no lease of it."""
    for fleet in (SMALL, ALONE, SOME):
        leases = plain_leases(fleet)
        things = [part for lease in leases for part in otherwise(lease)]
        for thing in (*things, *every_kind()):
            if not any(same(thing, lease) for lease in leases):
                yield fleet, thing


def drawn_texts(chosen, right, others):
    """Texts that have some words and lines of a right text exchanged."""
    for _ in range(400):
        lines = [line.split(" ") for line in right.split("\n")]
        for _ in range(chosen.randint(0, 3)):
            words = chosen.choice(lines)
            at = chosen.randint(0, len(words))
            words[at:at + chosen.randint(0, 1)] = chosen.sample(others, chosen.randint(0, 1))
            if chosen.random() < 0.2:
                lines.insert(chosen.randint(0, len(lines)), list(chosen.choice(lines)))
        yield "\n".join(" ".join(words) for words in lines)


def written_otherwise(chosen, text, ordered):
    """A text that tells the same: with blanks, remarks, empty lines, and lines in another order."""
    lines = text.split("\n")
    if not ordered:
        chosen.shuffle(lines)
    written = []
    for line in lines:
        words = re.sub(" ", lambda _: " " * chosen.randint(1, 3), line)
        remark = chosen.choice(["", "#", " # hop 0", "# service", "##"])
        written += [""] * chosen.randint(0, 1) + chosen.choice([[], ["#pin a 1"], ["   "]])
        written.append(" " * chosen.randint(0, 2) + words + " " * chosen.randint(0, 2) + remark)
    return "\n".join(written) + chosen.choice(["", "\n", "\n\n # end"])


def plain_lines(text):
    return [re.findall("[^ ]+", re.sub("#.*", "", line)) for line in text.split("\n")]


# --- calls ----------------------------------------------------------------------------------------

def exact(thing):
    """A value with the kinds of its parts told at each depth; equal for dicts in any order."""
    if isinstance(thing, (list, tuple)):
        return type(thing), [exact(item) for item in thing]
    if isinstance(thing, dict):
        return dict, sorted([(repr(key), exact(key), exact(thing[key])) for key in thing], key=lambda row: row[0])
    if thing is None or isinstance(thing, (bool, int, str)):
        return type(thing), thing
    return type(thing), exact(vars(thing))


def same(one, other):
    """Whether two values have equal parts of the same kinds at each depth; dicts in any order."""
    return type(one) is type(other) and exact(one) == exact(other)


def changeable(thing):
    """The lists and dicts in a value."""
    if isinstance(thing, (list, dict)):
        yield thing
    if isinstance(thing, (list, tuple)):
        for item in thing:
            yield from changeable(item)
    if isinstance(thing, dict):
        for key in thing:
            yield from changeable(key)
            yield from changeable(thing[key])


def outcome(function, arguments):
    """What a call returns or raises."""
    try:
        return "returned", function(*arguments)
    except FleetError as error:
        return "raised", error


def order_of_keys(thing):
    """The keys of all dicts in a value, in their orders."""
    return [[repr(key) for key in part] for part in changeable(thing) if isinstance(part, dict)]


def observed(test, function, arguments):
    """The outcome of a call; it leaves its arguments as they are, and comes a second time."""
    before = copy.deepcopy(arguments)
    kind, told = outcome(function, arguments)
    kept = copy.deepcopy(told) if kind == "returned" else vars(told).copy()
    test.assertTrue(same(arguments, before), (function, before))
    test.assertEqual(order_of_keys(arguments), order_of_keys(before))
    if kind == "returned":
        owned = [id(part) for part in changeable(told)]
        test.assertEqual(len(owned), len(set(owned)))
        test.assertFalse(set(owned) & {id(part) for part in changeable(arguments)})
    second_kind, again = outcome(function, copy.deepcopy(arguments))
    test.assertEqual((function, kind, type(told)), (function, second_kind, type(again)))
    if kind == "returned":
        test.assertTrue(same(told, kept) and same(told, again), (function, before, told, again))
        test.assertEqual(order_of_keys(told), order_of_keys(again))
    else:
        test.assertTrue(same(kept, vars(again)), (function, before))
    return kind, told


def called(test, function, *arguments):
    """What a call returns."""
    kind, told = observed(test, function, arguments)
    test.assertEqual(kind, "returned", (function, arguments, told))
    return told


def check(test, expected, function, *arguments):
    """A call returns exactly what is expected."""
    told = called(test, function, *arguments)
    test.assertTrue(same(told, expected), (function.__name__, arguments, told, expected))


def check_raised(test, expected, function, *arguments):
    """A call raises exactly an error of this class, with these fields."""
    kind, told = observed(test, function, arguments)
    test.assertEqual(kind, "raised", (function, arguments, told))
    test.assertIs(type(told), type(expected), (function, arguments))
    test.assertTrue(same(told, expected), (function, arguments, vars(told), vars(expected)))
    return told


# --- what the document defines, worked out the plain way --------------------------------------------

def plain_leases(fleet):
    services, _, restarts = fleet
    return sorted([(s, 0) for s in services] + [(s, j + 1) for j, s in enumerate(restarts)])


def plain_end(fleet, lease):
    service, begin = lease
    for number, restarting in enumerate(fleet[2]):
        if number >= begin and restarting == service:
            return number
    return len(fleet[2])


def plain_stretches(fleet, lease):
    return list(range(lease[1], plain_end(fleet, lease) + 1))


def plain_plans(fleet):
    numbers = range(len(fleet[2]))
    return [plan for many in range(len(fleet[2]) + 1) for plan in itertools.combinations(numbers, many)]


def plain_courses(fleet, plan):
    """For each stretch the dict from services to machines, and the spare machine."""
    services, places, restarts = fleet
    machines = dict(zip(services, places))
    rows = []
    for number in range(len(restarts) + 1):
        (spare,) = set(range(len(services) + 1)) - set(machines.values())
        rows.append((dict(machines), spare))
        if number in plan:
            machines[restarts[number]] = spare
    return rows


def plain_table(fleet, plan):
    rows = plain_courses(fleet, plan)
    return {lease: rows[lease[1]][0][lease[0]] for lease in plain_leases(fleet)}


def plain_reduced(word):
    """Two equal neighbours are removed as long as there are any."""
    word = list(word)
    at = 0
    while at + 1 < len(word):
        if word[at] == word[at + 1]:
            del word[at:at + 2]
            at = 0
        else:
            at += 1
    return tuple(word)


def reduced_words(letters, length):
    """All reduced words of these letters up to a length."""
    words = [w for many in range(length + 1) for w in itertools.product(letters, repeat=many)]
    return [w for w in words if all(x != y for x, y in zip(w, w[1:]))]


def plain_edited(fleet, plan, pins, lease):
    """The plan to which an edit leads, None if it cannot be done; by the machines alone."""
    if not any(same(lease, one) for one in plain_leases(fleet)) or lease[1] == 0 or lease in pins:
        return None
    return plain_graph(fleet)[plan].get(lease)


@functools.lru_cache(maxsize=None)
def plain_graph(fleet):
    """For each plan the dict from its edits, with no pins, to the plans to which they lead; by the machines alone."""
    by_table = {tuple(plain_table(fleet, plan).items()): plan for plan in plain_plans(fleet)}
    graph = {}
    for table, plan in by_table.items():
        rows = plain_courses(fleet, plan)
        graph[plan] = {}
        for lease, _ in table:
            spares = {rows[stretch][1] for stretch in plain_stretches(fleet, lease)}
            if lease[1] > 0 and len(spares) == 1:
                graph[plan][lease] = by_table[tuple({**dict(table), lease: min(spares)}.items())]
    return graph


def plain_needed(fleet, pins, plan):
    """The dict from the plans of a class to how many edits are needed to them, by going along edits."""
    needed, waiting = {plan: 0}, [plan]
    for before in waiting:
        for lease, behind in plain_graph(fleet)[before].items():
            if lease not in pins and behind not in needed:
                needed[behind] = needed[before] + 1
                waiting.append(behind)
    return needed


def plain_behind(fleet, plan, pins, script):
    """The plan behind all edits of a tuple of leases, None if one of them cannot be done."""
    for lease in script:
        plan = None if lease in pins else plain_graph(fleet)[plan].get(lease)
        if plan is None:
            return None
    return plan


def plain_scripts(fleet, pins, one, other):
    """All shortest scripts from one plan to another, by going along edits; in the order of Python."""
    needed = plain_needed(fleet, pins, other)
    if one == other:
        return [()]
    steps = [(lease, plan) for lease, plan in plain_graph(fleet)[one].items() if lease not in pins]
    nearer = [(lease, plan) for lease, plan in steps if needed.get(plan, -1) == needed.get(one, 0) - 1]
    return sorted((lease, *rest) for lease, plan in nearer for rest in plain_scripts(fleet, pins, plan, other))


def plain_vertices(fleet, plan):
    """The vertices of a plan by their definition."""
    hops = [[fleet[2][j] for j in plan if j < k] for k in range(len(fleet[2]) + 1)]
    return tuple(plain_reduced(services) for services in hops)


def plain_way(one, other):
    """The way between two reduced words, walked step by step."""
    edges = []
    for letter in plain_reduced((*one[::-1], *other)):
        behind = plain_reduced((*one, letter))
        edges.append((min(one, behind, key=len), letter))
        one = behind
    assert one == other
    return edges


def plain_ways(fleet, one, other):
    """For each stretch the way from the vertex of one plan to that of the other."""
    return [plain_way(x, y) for x, y in zip(plain_vertices(fleet, one), plain_vertices(fleet, other))]


def plain_aparts(fleet, one, other):
    """The dict from all leases to how far two plans are apart; the same in all stretches of a lease."""
    ways = plain_ways(fleet, one, other)
    told = {}
    for lease in plain_leases(fleet):
        counts = {sum(edge[1] == lease[0] for edge in ways[k]) for k in plain_stretches(fleet, lease)}
        (told[lease],) = counts
    return told


def plain_differences(fleet, one, other):
    """All differences from one plan to another, ascending."""
    ways = plain_ways(fleet, one, other)
    lot = set()
    for lease in plain_leases(fleet):
        rows = [{edge for edge in ways[k] if edge[1] == lease[0]} for k in plain_stretches(fleet, lease)]
        assert all(row == rows[0] for row in rows)
        lot |= {(lease, edge) for edge in rows[0]}
    return tuple(sorted(lot))


def plain_direct(fleet, one, other):
    """The set of the couples of differences of which the first one directly precedes the second one."""
    stretches = {lease: plain_stretches(fleet, lease) for lease in plain_leases(fleet)}
    lot = plain_differences(fleet, one, other)
    couples = set()
    for k, told in enumerate(plain_ways(fleet, one, other)):
        here = {edge: (lease, edge) for lease, edge in lot if k in stretches[lease]}
        couples |= set(itertools.combinations([here[edge] for edge in told], 2))
    return couples


def plain_ahead(fleet, one, other):
    """The dict from each difference to the set of those that directly precede it."""
    ahead = {item: set() for item in plain_differences(fleet, one, other)}
    for first, second in plain_direct(fleet, one, other):
        ahead[second].add(first)
    return ahead


def plain_preceding(fleet, one, other):
    """The dict from each difference to the set of those that precede it, by going back step by step."""
    ahead = plain_ahead(fleet, one, other)
    told = {}
    for last in ahead:
        found, waiting = set(), [last]
        for second in waiting:
            waiting += ahead[second] - found
            found |= ahead[second]
        told[last] = found
    return told


def plain_closed_sets(fleet, one, other):
    """All closed sets of differences, as ascending tuples, by going through all sets."""
    before = plain_preceding(fleet, one, other)
    parts = [part for many in range(len(before) + 1) for part in itertools.combinations(sorted(before), many)]
    return [part for part in parts if all(before[item] <= set(part) for item in part)]


def every_wish(fleet):
    """All wishes for a fleet."""
    services, _, restarts = fleet
    machines, stretches = range(len(services) + 1), range(len(restarts) + 1)
    wishes = [(word, *told) for word in ("on", "off") for told in itertools.product(services, stretches, machines)]
    wishes += [("spare", machine, first, last) for machine in machines for first in stretches
               for last in stretches[first:]]
    return wishes + [("stay", number) for number in range(len(restarts))]


def drawn_wishes(chosen, fleet, most):
    """At most so many wishes for a fleet, more of those that something stays away than of others."""
    every = every_wish(fleet)
    away = [wish for wish in every if wish[0] in ("off", "stay")]
    return tuple(chosen.choice(chosen.choice((every, away))) for _ in range(chosen.randint(0, most)))


def plain_granted(fleet, plan, wish):
    """Whether a plan grants a wish, by the machines in its stretches."""
    rows = plain_courses(fleet, plan)
    if wish[0] == "stay":
        return wish[1] not in plan
    if wish[0] == "spare":
        return {rows[k][1] for k in range(wish[2], wish[3] + 1)} == {wish[1]}
    return (rows[wish[2]][0][wish[1]] == wish[3]) is (wish[0] == "on")


def plain_suits(fleet, wishes, stretch, word):
    """Whether a point suits wishes, by the machines behind the steps of its word."""
    machines = dict(zip(fleet[0], fleet[1]))
    for service in word:
        (machines[service],) = set(range(len(machines) + 1)) - set(machines.values())
    (spare,) = set(range(len(machines) + 1)) - set(machines.values())
    on = [machines[wish[1]] == wish[3] for wish in wishes if wish[0] == "on" and wish[2] == stretch]
    off = [machines[wish[1]] != wish[3] for wish in wishes if wish[0] == "off" and wish[2] == stretch]
    free = [spare == wish[1] for wish in wishes if wish[0] == "spare" and stretch in range(wish[2], wish[3] + 1)]
    return all(on + off + free)


def plain_quarrel(fleet, base, first, second):
    """Whether two differences quarrel, by the definition, in each stretch that their leases share."""
    (lease, edge), (other_lease, other_edge) = first, second
    shared = set(plain_stretches(fleet, lease)) & set(plain_stretches(fleet, other_lease))
    answers = set()
    for k in shared:
        vertex = plain_vertices(fleet, base)[k]
        ways = []
        for word, service in (edge, other_edge):
            far = max(word, (*word, service), key=lambda end: len(plain_way(vertex, end)))
            ways.append(plain_way(vertex, far))
        answers.add(edge not in ways[1] and other_edge not in ways[0])
    assert len(answers) <= 1
    return answers == {True}


@functools.lru_cache(maxsize=None)
def plans_by_lots(fleet, base):
    """The dict from the sets of differences from base to the plans that have just these."""
    return {frozenset(plain_differences(fleet, base, plan)): plan for plan in plain_plans(fleet)}


def later_leases(fleet):
    """All leases that may be pinned."""
    return tuple(lease for lease in plain_leases(fleet) if lease[1] > 0)


def pairs_of_plans(fleet, many, seed):
    """So many couples of plans of a fleet, equal ones, none and all hops among them; all, if there are so few."""
    pairs = list(itertools.product(plain_plans(fleet), repeat=2))
    every = tuple(range(len(fleet[2])))
    marked = [((), ()), ((), every), (every, ()), (every, every)]
    return pairs if len(pairs) <= many else marked + random.Random(seed).sample(pairs, many - 4)


def pinned_ahead(fleet, many):
    """The fleet with so many restarts of one service more ahead of all others, and its pins, which pin all of them."""
    services, places, restarts = fleet
    names = (*services, "zz")
    later = tuple(("zz", number + 1) for number in range(many))
    return (names, (*places, len(services) + 1), ("zz",) * many + restarts), later


def letters(text):
    """The fleet whose services are letters, which restart in this order."""
    names = tuple(sorted(set(text)))
    return names, tuple(range(len(names))), tuple(text)


# Fleets with just 3,999 and 4,001 points that are met with no pins; so many are always odd: but for the first
# one, each word has its neighbour over the last edge. A pinned restart ahead of all others adds one point.
FEWER_POINTS = letters("acffabbbfdaddebe")
MORE_POINTS = letters("aecbedbdefaaa")
JUST_ENOUGH = pinned_ahead(FEWER_POINTS, 1)
ONE_TOO_MANY = pinned_ahead(FEWER_POINTS, 2)
# One service: 121 points, and 2 ** 60 plans.
LONGEST = letters("a" * 60)


def plain_merged(fleet, base, one, other):
    """The plan to which two plans of one base merge, and None; or None and the least two differences that quarrel."""
    firsts, seconds = (plain_differences(fleet, base, plan) for plan in (one, other))
    both = [(x, y) for x, y in itertools.product(firsts, seconds) if plain_quarrel(fleet, base, x, y)]
    return plans_by_lots(fleet, base).get(frozenset(firsts) | frozenset(seconds)), min(both, default=None)


def plain_price(fleet, prices, one, other):
    return sum(prices[lease] * many for lease, many in plain_aparts(fleet, one, other).items())


class PlainHouse:
    """The state of a house kept by hand, from the definitions alone; each change raises the error that is due."""

    def __init__(self, fleet, plan, pins):
        self.fleet, self.plans, self.pins, self.now, self.lines = fleet, [plan], pins, 0, []

    def held(self):
        return tuple(x for x in later_leases(self.fleet) if x in self.pins or x[1] <= self.now)

    def told(self):
        """All that a house tells."""
        machines, spare = plain_courses(self.fleet, self.plans[-1])[self.now]
        return [self.fleet, self.plans[-1], self.pins, self.now, len(self.plans) - 1, self.held(), machines, spare,
                self.plans, "".join(line + "\n" for line in self.lines)]

    def become(self, plan):
        if plan != self.plans[-1]:
            self.plans.append(plan)
            self.lines.append("plan" + "".join(f" {hop}" for hop in plan))

    def edit(self, lease):
        plan = None if lease in self.held() else plain_graph(self.fleet)[self.plans[-1]].get(lease)
        if plan is None:
            raise NoEdit(0)
        self.become(plan)

    def lead(self, plan):
        barred = [x for x, many in plain_aparts(self.fleet, self.plans[-1], plan).items() if many and x in self.held()]
        assert bool(barred) is (plan not in plain_needed(self.fleet, self.held(), self.plans[-1]))
        if barred:
            raise NoWay(barred[0])
        self.become(plan)

    def propose(self, version, plan):
        if version >= len(self.plans):
            raise NoNumber(len(self.plans))
        merge, both = plain_merged(self.fleet, self.plans[version], self.plans[-1], plan)
        if both is not None:
            raise NoMerge(both)
        self.lead(merge)

    def take_back(self, version):
        if version == 0:
            raise Nothing()
        self.propose(version, self.plans[min(version, len(self.plans)) - 1])

    def grant(self, wishes, prices):
        plans = sorted(plain_needed(self.fleet, self.held(), self.plans[-1]))
        rows = [(plain_price(self.fleet, prices, self.plans[-1], plan), plan) for plan in plans
                if all(plain_granted(self.fleet, plan, wish) for wish in wishes)]
        if not rows:
            raise NoGrant()
        self.become(min(rows)[1])

    def pin(self, lease):
        if lease not in self.pins:
            self.pins = tuple(sorted((*self.pins, lease)))
            self.lines.append(f"pin {lease[0]} {lease[1]}")

    def unpin(self, lease):
        if lease not in self.pins:
            raise NoLease(lease)
        self.pins = tuple(other for other in self.pins if other != lease)
        self.lines.append(f"unpin {lease[0]} {lease[1]}")

    def pass_restart(self):
        if self.now == len(self.fleet[2]):
            raise Nothing()
        self.now += 1
        self.lines.append("pass")


def house_told(house):
    """All that a house tells."""
    return [house.fleet(), house.plan(), house.pins(), house.now(), house.version(), house.held(), house.machines(),
            house.spare(), [house.plan_of(version) for version in range(house.version() + 1)], house.log()]


def drawn_change(chosen, plain):
    """The name of a method of a house, and arguments of it, for a house in this state."""
    fleet, m = plain.fleet, len(plain.fleet[2])
    later = later_leases(fleet) or (None,)
    near = [plan for plan in plain_needed(fleet, plain.held(), plain.plans[-1])]
    plan = chosen.choice(chosen.choice((near, plain_plans(fleet), plain.plans)))
    version = chosen.randint(0, len(plain.plans)) if chosen.random() < 0.9 else 10 ** 40 - 1
    rows = [("edit", chosen.choice(plain_leases(fleet))), ("edit", chosen.choice(later)), ("lead", plan),
            ("propose", version, plan), ("propose", version, chosen.choice(plain.plans)), ("take_back", version),
            ("grant", drawn_wishes(chosen, fleet, 3), drawn_prices(chosen, fleet)), ("pin", chosen.choice(later)),
            ("unpin", chosen.choice(plain.pins or later)), ("unpin", chosen.choice(later)), ("pass_restart",)]
    rows = [row for row in rows if None not in row]
    return chosen.choice([row for row in rows if row[0] != "pass_restart" or chosen.random() < 3 * m / 40])


# Plans that are many hundred differences apart: fleets with two, three and eight services and sixty restarts.
FAR = tuple(
    ((names, tuple(range(len(names))), tuple(names[k % len(names)] for k in range(60))), tuple(range(60)), other)
    for names in (tuple("ab"), tuple("abc"), tuple("abcdefgh"))
    for other in (tuple(range(1, 60)), (), tuple(k for k in range(60) if k % 3))
)


def quick(test, function, *arguments):
    """What a call returns, or the error that it raises; it comes back within seconds."""
    begun = time.perf_counter()
    _, told = outcome(function, arguments)
    test.assertLess(time.perf_counter() - begun, 10, function.__name__)
    return told


def check_changeable(test, function, *arguments):
    """The lists and dicts that a call returns may be changed: it returns the same again."""
    kept = called(test, function, *arguments)
    again = function(*arguments)
    for part in list(changeable(again)):
        part.clear()
    test.assertTrue(same(function(*arguments), kept), (function, arguments))
