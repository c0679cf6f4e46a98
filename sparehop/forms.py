"""Whether a value has exactly the form that its name says."""

LETTERS = "abcdefghijklmnopqrstuvwxyz"
LONGEST_NAME = 12


def is_integer(thing):
    """Tell whether a value is an integer; a truth is none."""
    return isinstance(thing, int) and not isinstance(thing, bool)


def is_integer_within(thing, least, most):
    """Tell whether a value is an integer from least to most."""
    return is_integer(thing) and least <= thing <= most


def is_name(thing):
    """Tell whether a value is a NAME."""
    if not isinstance(thing, str) or not 1 <= len(thing) <= LONGEST_NAME:
        return False
    return all([letter in LETTERS for letter in thing])


def are_three_tuples(thing):
    """Tell whether a value is a tuple of three tuples."""
    return isinstance(thing, tuple) and len(thing) == 3 and all([isinstance(part, tuple) for part in thing])


def first_bad_service(services):
    """Return the least index of an item that is no NAME or does not ascend, None if there is none."""
    for index in range(len(services)):
        if not is_name(services[index]):
            return index
        if index > 0 and services[index] <= services[index - 1]:
            return index
    return None


def first_bad_place(services, places):
    """Return the least index of an item that is no machine or stands there before, None if there is none."""
    for index in range(len(places)):
        if not is_integer_within(places[index], 0, len(services)):
            return index
        if places[index] in places[:index]:
            return index
    return None


def first_bad_restart(services, restarts):
    """Return the least index of an item that is no service, None if there is none."""
    for index in range(len(restarts)):
        # Only strings are compared with the services, so no other object has a say in it.
        if not isinstance(restarts[index], str) or restarts[index] not in services:
            return index
    return None


def is_fleet(thing):
    """Tell whether a value is a FLEET."""
    if not are_three_tuples(thing):
        return False
    services, places, restarts = thing
    if not services or first_bad_service(services) is not None:
        return False
    if len(places) != len(services) or first_bad_place(services, places) is not None:
        return False
    return first_bad_restart(services, restarts) is None


def is_pair(thing):
    """Tell whether a value is a tuple of two items."""
    return isinstance(thing, tuple) and len(thing) == 2


def is_service(fleet, thing):
    """Tell whether a value is a service of the FLEET."""
    return isinstance(thing, str) and thing in fleet[0]


def is_lease(fleet, thing):
    """Tell whether a value is a LEASE of the FLEET."""
    if not is_pair(thing):
        return False
    service, begin = thing
    if not is_service(fleet, service) or not is_integer_within(begin, 0, len(fleet[2])):
        return False
    return begin == 0 or fleet[2][begin - 1] == service


def is_ascending(items):
    """Tell whether items that can be compared ascend, without duplicates."""
    return all([items[at] < items[at + 1] for at in range(len(items) - 1)])


def is_plan(fleet, thing):
    """Tell whether a value is a PLAN of the FLEET."""
    if not isinstance(thing, tuple):
        return False
    last = len(fleet[2]) - 1
    return all([is_integer_within(hop, 0, last) for hop in thing]) and is_ascending(thing)


def are_edits(fleet, thing):
    """Tell whether a value is a tuple of LEASES of the FLEET."""
    return isinstance(thing, tuple) and all([is_lease(fleet, lease) for lease in thing])


def are_pins(fleet, thing):
    """Tell whether a value is PINS of the FLEET."""
    if not are_edits(fleet, thing):
        return False
    return all([begin > 0 for _, begin in thing]) and is_ascending(thing)


def is_word(fleet, thing):
    """Tell whether a value is a WORD of services of the FLEET."""
    return isinstance(thing, tuple) and all([is_service(fleet, item) for item in thing])


def is_reduced(fleet, thing):
    """Tell whether a value is a REDUCED WORD of services of the FLEET."""
    return is_word(fleet, thing) and all([thing[at] != thing[at + 1] for at in range(len(thing) - 1)])


def is_edge(fleet, thing):
    """Tell whether a value is an EDGE between REDUCED WORDS of services of the FLEET."""
    if not is_pair(thing):
        return False
    word, service = thing
    return is_reduced(fleet, word) and is_service(fleet, service) and word[-1:] != (service,)


def has_leases_as_keys(fleet, thing):
    """Tell whether a value is a dict that has exactly the LEASES of the FLEET as keys."""
    # A lookup would take ("a", True) for ("a", 1): so each key is looked at itself, and the keys
    # are counted. Each service has a FIRST lease, and each restart begins one more.
    if not isinstance(thing, dict) or len(thing) != len(fleet[0]) + len(fleet[2]):
        return False
    return all([is_lease(fleet, key) for key in thing])


def are_prices(fleet, thing):
    """Tell whether a value is PRICES of the FLEET."""
    if not has_leases_as_keys(fleet, thing):
        return False
    return all([is_integer(price) and price >= 0 for price in thing.values()])
