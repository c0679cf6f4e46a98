"""Logs of houses, and houses reopened from what is left of them."""

from sparehop.errors import NoLease, NoText, NoWay, Nothing, Wrong
from sparehop.fleets import size
from sparehop.fleettexts import lease_column, lease_told, number_told
from sparehop.forms import is_plan
from sparehop.house import House


def whole_lines(text):
    """Return the lines of a text behind which there is a line feed, without it."""
    return tuple(text.split("\n")[:-1])


def hops_told(fleet, words):
    """Return the PLAN whose HOPS are told by words, None if they tell none."""
    hops = tuple([number_told(word, size(fleet) - 1) for word in words])
    return hops if is_plan(fleet, hops) else None


def pin_told(fleet, words):
    """Return the LEASE that is told behind the first one of three words, None if none is, or a FIRST one."""
    if lease_column(fleet, words[0], words) is not None:
        return None
    lease = lease_told(fleet, words)
    return lease if lease[1] > 0 else None


def change_told(fleet, line):
    """Return the tuple of the first word of a line of a log and what is told behind it, None if it has no such form."""
    words = line.split(" ")
    told = None
    if line == "pass":
        told = ()
    elif words[0] == "plan":
        told = hops_told(fleet, words[1:])
    elif words[0] in ("pin", "unpin"):
        told = pin_told(fleet, words)
    return None if told is None else (words[0], told)


def change(house, word, told):
    """Change a House as a line of a log tells."""
    if word == "plan":
        house.lead(told)
    elif word == "pin":
        house.pin(told)
    elif word == "unpin":
        house.unpin(told)
    else:
        house.pass_restart()


def could_log(house, word, told):
    """Change a House as a line of a log tells; tell whether it could be the next one."""
    # These are no errors of a House; but as they change nothing it logs nothing.
    if word == "plan" and told == house.plan() or word == "pin" and told in house.pins():
        return False
    try:
        change(house, word, told)
    except (NoWay, NoLease, Nothing):
        return False
    return True


def reopened(fleet, plan, pins, text):
    """Return the House that was made of the first three and that all whole lines of a text have led."""
    house = House(fleet, plan, pins)
    if not isinstance(text, str):
        raise Wrong(3)
    for index, line in enumerate(whole_lines(text)):
        told = change_told(fleet, line)
        if told is None:
            raise NoText(index, 0)
        if not could_log(house, told[0], told[1]):
            raise NoText(index, 1)
    return house
