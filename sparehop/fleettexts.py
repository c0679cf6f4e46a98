"""Texts of fleets, plans and pins, written and read, and the picture of a plan."""

from sparehop.errors import NoText, Wrong
from sparehop.fleets import hopping_before, machines_after, size
from sparehop.forms import is_fleet, is_lease, is_name, is_service


def fleet_text(fleet):
    """Return the text of a FLEET."""
    lines = [f"service {name} {place}" for name, place in zip(fleet[0], fleet[1])]
    lines.append(" ".join(["restarts", *fleet[2]]))
    return "\n".join(lines)


def plan_text(fleet, plan):
    """Return the text of a PLAN."""
    return "\n".join([f"hop {number} {fleet[2][number]}" for number in plan])


def pins_text(fleet, pins):
    """Return the text of PINS."""
    return "\n".join([f"pin {service} {begin}" for service, begin in pins])


def words_of(line):
    """Return the list of the words of a line, without its remark."""
    # Only the blank parts words, no other white space does.
    return [word for word in line.partition("#")[0].split(" ") if word]


def lines_with_words(text):
    """Return the list of the lines of a text that have words: tuples of the line's index and its words."""
    lines = [(line, words_of(told)) for line, told in enumerate(text.split("\n"))]
    return [(line, words) for line, words in lines if words]


def three_words(words):
    """Return the first three words of a line, with "" for each that is missing.

    A missing word has the column that is the number of the words, and "" is right nowhere:
    so a line that ends too early is at fault in the column of its first missing word.
    """
    return (words + ["", "", ""])[:3]


def number_told(word, most):
    """Return the integer whose NUMBER a word is, None if it is none from 0 to most."""
    # Digits are not read, but compared: a word may have more of them than Python reads at once.
    for number in range(most + 1):
        if word == str(number):
            return number
    return None


def service_column(words, count, places):
    """Return the column at fault in a line of a FLEET's service, None if there is none.

    count is the number of all such lines, places has those of the lines before.
    """
    _, name, place = three_words(words)
    if not is_name(name) or name in places:
        return 1
    number = number_told(place, count)
    if number is None or number in list(places.values()):
        return 2
    return 3 if len(words) > 3 else None


def restarts_column(words, names):
    """Return the column at fault in a line of restarts, None if there is none."""
    for column in range(1, len(words)):
        if words[column] not in names:
            return column
    return None


def fleet_column(words, names, count, places):
    """Return the column at fault in a line of a FLEET's text, None if there is none."""
    if words[0] == "service":
        return service_column(words, count, places)
    if words[0] == "restarts":
        return restarts_column(words, names)
    return 0


def read_fleet(text):
    """Return the FLEET that a text tells."""
    if not isinstance(text, str):
        raise Wrong(0)
    lines = lines_with_words(text)
    told = [words for _, words in lines if words[0] == "service"]
    names = [three_words(words)[1] for words in told]
    places = {}
    restarts = []
    for line, words in lines:
        column = fleet_column(words, names, len(told), places)
        if column is not None:
            raise NoText(line, column)
        if words[0] == "service":
            places[words[1]] = number_told(words[2], len(told))
        else:
            restarts.extend(words[1:])
    if not told:
        raise NoText(text.count("\n") + 1, 0)
    services = sorted(places)
    return (tuple(services), tuple([places[name] for name in services]), tuple(restarts))


def hop_column(fleet, words, hops):
    """Return the column at fault in a line of a PLAN's text, None if there is none.

    hops has those of the lines before.
    """
    first, second, third = three_words(words)
    if first != "hop":
        return 0
    number = number_told(second, size(fleet) - 1)
    if number is None or number in hops:
        return 1
    if third != fleet[2][number]:
        return 2
    return 3 if len(words) > 3 else None


def read_plan(fleet, text):
    """Return the PLAN that a text tells."""
    refuse_wrong(fleet, text)
    hops = []
    for line, words in lines_with_words(text):
        column = hop_column(fleet, words, hops)
        if column is not None:
            raise NoText(line, column)
        hops.append(number_told(words[1], size(fleet) - 1))
    return tuple(sorted(hops))


def lease_column(fleet, first, words):
    """Return the column at fault in a line of a first word and a LEASE behind it, None if there is none."""
    start, service, begin = three_words(words)
    if start != first:
        return 0
    if not is_service(fleet, service):
        return 1
    if not is_lease(fleet, (service, number_told(begin, size(fleet)))):
        return 2
    return 3 if len(words) > 3 else None


def lease_told(fleet, words):
    """Return the LEASE that a line tells behind its first word."""
    return (words[1], number_told(words[2], size(fleet)))


def pin_column(fleet, words, pins):
    """Return the column at fault in a line of the text of PINS, None if there is none.

    pins has those of the lines before.
    """
    column = lease_column(fleet, "pin", words)
    if column is None or column == 3:
        lease = lease_told(fleet, words)
        if lease[1] == 0 or lease in pins:
            return 2
    return column


def read_pins(fleet, text):
    """Return the PINS that a text tells."""
    refuse_wrong(fleet, text)
    pins = []
    for line, words in lines_with_words(text):
        column = pin_column(fleet, words, pins)
        if column is not None:
            raise NoText(line, column)
        pins.append(lease_told(fleet, words))
    return tuple(sorted(pins))


def refuse_wrong(fleet, text):
    """Refuse the first of two arguments that is no FLEET, or no string."""
    if not is_fleet(fleet):
        raise Wrong(0)
    if not isinstance(text, str):
        raise Wrong(1)


def runs_on(fleet, machines, machine):
    """Return the service that runs on a machine, "." if none does."""
    for service, taken in zip(fleet[0], machines):
        if taken == machine:
            return service
    return "."


def picture(fleet, plan):
    """Return a text with a line for each machine that tells what runs on it, stretch by stretch."""
    rows = [machines_after(fleet, hopping_before(fleet, plan, stretch)) for stretch in range(size(fleet) + 1)]
    lines = []
    for machine in range(len(fleet[0]) + 1):
        words = [runs_on(fleet, machines, machine) for machines in rows]
        lines.append(" ".join([str(machine), *words]))
    return "\n".join(lines)
