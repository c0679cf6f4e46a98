"""The desk: lines of words that change a house, and questions that it answers."""

from sparehop.apart import aparts
from sparehop.classes import frozen, many_plans
from sparehop.edits import edits_of
from sparehop.errors import (
    NoCommand, NoEdit, NoGrant, NoLease, NoMerge, NoNumber, NoWay, Nothing, TooMany, Wrong,
)
from sparehop.fleets import leases_of
from sparehop.fleettexts import lease_column, lease_told, picture, read_fleet, read_plan
from sparehop.house import House
from sparehop.leading import script_to
from sparehop.logs import hops_told, pin_told, whole_lines
from sparehop.wishes import are_wishes

DIGITS = "0123456789"
LONGEST_NUMBER = 40
CHANGES = ("edit", "lead", "propose", "back", "pin", "unpin", "pass", "grant")
# The commands of one word.
ALONE = (
    "pass", "plan", "version", "now", "spare", "machines", "pins", "held", "edits", "frozen", "many", "picture", "log",
)


def number_of_word(word):
    """Return the integer whose NUMBER a word is, None if it is none."""
    if not all([letter in DIGITS for letter in word]) or (word[0] == "0" and word != "0"):
        return None
    # A word may have more digits than Python reads at once; but so great a number is beyond all that there is.
    return int(word[:LONGEST_NUMBER])


def any_lease_told(fleet, words):
    """Return the LEASE that is told behind the first one of three words, None if none is."""
    return lease_told(fleet, words) if lease_column(fleet, words[0], words) is None else None


def wish_told(fleet, words):
    """Return the WISH that is told by words, None if none is."""
    wish = tuple(words[:1])
    for word in words[1:]:
        # Of all that stands in a WISH behind its first word only a service is no NUMBER.
        number = number_of_word(word)
        wish = (*wish, word if number is None else number)
    return wish if are_wishes(fleet, (wish,)) else None


def things_told(fleet, words):
    """Return the list of the things for which the words of a command stand behind its first one.

    In it is None if words do not stand for such a thing, or are no command.
    """
    first = "".join(words[:1])
    if first in ALONE and len(words) == 1:
        return []
    if first == "edit":
        return [any_lease_told(fleet, words)]
    if first in ("pin", "unpin"):
        return [pin_told(fleet, words)]
    if first in ("lead", "script", "apart"):
        return [hops_told(fleet, words[1:])]
    if first == "propose" and len(words) > 1:
        return [number_of_word(words[1]), hops_told(fleet, words[2:])]
    if first == "back" and len(words) == 2:
        return [number_of_word(words[1])]
    if first == "grant":
        return [wish_told(fleet, words[1:])]
    return [None]


def change(house, word, things):
    """Change a House by a command."""
    if word == "edit":
        house.edit(things[0])
    elif word == "lead":
        house.lead(things[0])
    elif word == "propose":
        house.propose(things[0], things[1])
    elif word == "back":
        house.take_back(things[0])
    elif word == "pin":
        house.pin(things[0])
    elif word == "unpin":
        house.unpin(things[0])
    elif word == "pass":
        house.pass_restart()
    else:
        house.grant((things[0],), {lease: 1 for lease in leases_of(house.fleet())})


def changed(house, word, things):
    """Change a House by a command; return the line that tells whether it was done, or refused by which error."""
    line = "done"
    try:
        change(house, word, things)
    except NoEdit:
        line = "refused NoEdit"
    except NoWay:
        line = "refused NoWay"
    except NoNumber:
        line = "refused NoNumber"
    except NoMerge:
        line = "refused NoMerge"
    except Nothing:
        line = "refused Nothing"
    except NoLease:
        line = "refused NoLease"
    except TooMany:
        line = "refused TooMany"
    except NoGrant:
        line = "refused NoGrant"
    return line


def lease_lines(leases):
    """Return the list of lines that tell LEASES."""
    return [f"{service} {begin}" for service, begin in leases]


def state_lines(house, word):
    """Return the answer to a question of one word about what a House keeps."""
    if word == "plan":
        return [" ".join([str(hop) for hop in house.plan()])]
    if word == "version":
        return [str(house.version())]
    if word == "now":
        return [str(house.now())]
    if word == "spare":
        return [str(house.spare())]
    if word == "machines":
        return [f"{service} {machine}" for service, machine in house.machines().items()]
    if word == "pins":
        return lease_lines(house.pins())
    if word == "held":
        return lease_lines(house.held())
    if word == "picture":
        return picture(house.fleet(), house.plan()).split("\n")
    return list(whole_lines(house.log()))


def class_lines(house, word):
    """Return the answer to a question of one word about what the PLAN of a House may become."""
    fleet, plan, held = house.fleet(), house.plan(), house.held()
    if word == "edits":
        return lease_lines(edits_of(fleet, plan, held))
    try:
        if word == "frozen":
            return lease_lines(frozen(fleet, held, plan))
        return [str(many_plans(fleet, held, plan))]
    except TooMany:
        return ["refused TooMany"]


def script_lines(house, plan):
    """Return the answer to how the PLAN of a House can be led to another one."""
    try:
        return lease_lines(script_to(house.fleet(), house.held(), house.plan(), plan))
    except NoWay as error:
        return [f"barred {error.lease[0]} {error.lease[1]}"]


def apart_lines(house, plan):
    """Return the answer to how far the PLAN of a House and another one are apart."""
    told = aparts(house.fleet(), house.plan(), plan)
    return [f"{lease[0]} {lease[1]} {many}" for lease, many in told.items()]


def answered(house, word, things):
    """Return the answer to a question."""
    if word == "script":
        return script_lines(house, things[0])
    if word == "apart":
        return apart_lines(house, things[0])
    if word in ("edits", "frozen", "many"):
        return class_lines(house, word)
    return state_lines(house, word)


class Desk:
    """A House that is led by lines of words."""

    def __init__(self, fleet_text, plan_text):
        if not isinstance(fleet_text, str):
            raise Wrong(0)
        if not isinstance(plan_text, str):
            raise Wrong(1)
        fleet = read_fleet(fleet_text)
        self._house = House(fleet, read_plan(fleet, plan_text), ())

    def house(self):
        """Return a twin of the House."""
        return self._house.twin()

    def execute(self, line):
        """Do what a line tells; return the lines of the answer."""
        if not isinstance(line, str) or "\n" in line:
            raise Wrong(0)
        words = [word for word in line.split(" ") if word]
        things = things_told(self._house.fleet(), words)
        if None in things:
            raise NoCommand(line)
        if words[0] in CHANGES:
            return [changed(self._house, words[0], things)]
        return answered(self._house, words[0], things)
