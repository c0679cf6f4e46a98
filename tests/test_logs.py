"""[38] logs: cut at each sign, and changed in many ways; measured by the state of a house kept by hand."""

import random
import re
import unittest

import helper
from helper import check, check_raised
from sparehop.errors import FleetError, NoText, Wrong
from sparehop.house import House
from sparehop.logs import reopened, whole_lines

SMALL_FLEETS = (helper.SMALL, helper.STILL, helper.SOME, *helper.drawn_fleets(8, 4, 5, 190),
                helper.letters("abcab"), helper.letters("aabba"))


def led_house(chosen, fleet, many):
    """A house that drawn calls have led, and its first plan and pins."""
    plan, pins = chosen.choice(helper.plain_plans(fleet)), helper.drawn_pins(chosen, fleet)[:1]
    house, plain = House(fleet, plan, pins), helper.PlainHouse(fleet, plan, pins)
    for _ in range(many):
        name, *arguments = helper.drawn_change(chosen, plain)
        for each in (house, plain):
            helper.outcome(getattr(each, name), arguments)
    return house, plan, pins


def plain_change(fleet, line):
    """The name of the method and the arguments that a line of a log tells, None if it has no such form."""
    changes = {f"{word} {lease[0]} {lease[1]}": (word, lease) for word in ("pin", "unpin")
               for lease in helper.later_leases(fleet)}
    hops = [int(word) for word in re.findall("[0-9]{1,9}", line)]
    right = hops == sorted(set(hops)) and all(hop < len(fleet[2]) for hop in hops)
    if right and line == "plan" + "".join(f" {hop}" for hop in hops):
        return "lead", tuple(hops)
    return ("pass_restart",) if line == "pass" else changes.get(line)


def plain_reopened(fleet, plan, pins, text):
    """What a reopened house tells, or the error that is due."""
    plain = helper.PlainHouse(fleet, plan, pins)
    for index, line in enumerate(re.findall("([^\n]*)\n", text)):
        change = plain_change(fleet, line)
        if change is None:
            return NoText(index, 0)
        before = len(plain.lines)
        try:
            getattr(plain, change[0])(*change[1:])
        except FleetError:
            return NoText(index, 1)
        if len(plain.lines) == before:
            return NoText(index, 1)
    return plain.told()


class Logs(unittest.TestCase):

    def check_reopened(self, fleet, plan, pins, text):
        expected = plain_reopened(fleet, plan, pins, text)
        kind, told = helper.outcome(reopened, (fleet, plan, pins, text))
        told = helper.house_told(told) if kind == "returned" else told
        self.assertTrue(helper.same(told, expected), (fleet, plan, pins, text, expected))
        return kind, expected

    def test_whole_lines(self):
        rows = [("", ()), ("\n", ("",)), ("a", ()), ("a\n", ("a",)), ("a\nb", ("a",)), ("a\n\nb\n", ("a", "", "b")),
                ("\n\n", ("", "")), (" pass \n#\npa", (" pass ", "#")), ("plan 0 2\npass\n", ("plan 0 2", "pass"))]
        for text, lines in rows:
            check(self, lines, whole_lines, text)

    def test_logs_cut_at_each_sign(self):
        chosen = random.Random(191)
        many = 0
        for fleet in SMALL_FLEETS:
            house, plan, pins = led_house(chosen, fleet, 40)
            log = house.log()
            self.assertEqual(reopened(fleet, plan, pins, log), house)
            for cut in range(len(log) + 1):
                part = reopened(fleet, plan, pins, log[:cut])
                whole = log[:log[:cut].rfind("\n") + 1]
                self.assertEqual(part.log(), whole)
                self.check_reopened(fleet, plan, pins, log[:cut])
                many += part.version() + part.now() > 0
            again = reopened(fleet, plan, pins, log)
            self.assertTrue(helper.same(helper.house_told(again), helper.house_told(house)))
        self.assertGreater(many, 1000)

    def test_a_reopened_house_goes_on(self):
        chosen = random.Random(192)
        for fleet in SMALL_FLEETS:
            house, plan, pins = led_house(chosen, fleet, 20)
            log = house.log()
            lines = log.split("\n")
            for cut in range(len(lines)):
                part = reopened(fleet, plan, pins, "\n".join(lines[:cut]) + "\n" if cut else "")
                for line in lines[cut:-1]:
                    change = plain_change(fleet, line)
                    self.assertIsNone(getattr(part, change[0])(*change[1:]))
                self.assertEqual(part, house)

    def test_logs_changed_in_many_ways(self):
        chosen = random.Random(193)
        found = {}
        for fleet in SMALL_FLEETS * 2:
            house, plan, pins = led_house(chosen, fleet, 25)
            lines = house.log().split("\n")[:-1] or ["pass"]
            for at in range(len(lines)):
                other = chosen.randrange(len(lines))
                swapped = list(lines)
                swapped[at], swapped[other] = swapped[other], swapped[at]
                for told in (lines[:at] + lines[at + 1:], lines[:at] + [lines[at]] + lines[at:], swapped,
                             lines[:at] + [chosen.choice(lines)] + lines[at:], lines[:at] + ["pass"] + lines[at:],
                             lines[:at] + ["plan"] + lines[at:], lines[:at] + [self.spoilt(chosen, lines[at])] + lines[at + 1:]):
                    kind, expected = self.check_reopened(fleet, plan, pins, "\n".join(told) + "\n")
                    key = (kind, getattr(expected, "column", None))
                    found[key] = found.get(key, 0) + 1
        self.assertGreater(min(found.values()), 100)
        self.assertEqual(len(found), 3)

    def spoilt(self, chosen, line):
        """A line with a sign more, less, or otherwise."""
        at = chosen.randint(0, len(line))
        sign = chosen.choice([" ", "0", "1", "a", "#", "-", "pass", "plan", "\n", "+", "_"])
        return line[:at] + chosen.choice(["", sign]) + line[at + chosen.randint(0, 1):]

    def test_forms_of_lines(self):
        zeros = ["plan 00", "plan 01", "plan 0 02", "pin a 01", "unpin a 03", "plan +1", "plan 1_0", "plan -0"]
        blanks = [" pass", "pass ", "plan ", " plan", "plan  0", "plan 0 ", "pin  a 1", "pin a  1", "pin a 1 ", ""]
        words = ["Pass", "pas", "passes", "plan a", "plan 0 0", "plan 2 0", "plan 3", "plan 0,2", "plan #", "pin", "pin a",
                 "pin 1 a", "pin a 0", "pin b 0", "unpin a 0", "pin a 2", "pin b 1", "pin c 1", "pin a 4", "pin a 1 1",
                 "edit a 1", "pass 1", "pin a True", "unpin", "plan" + " 0" * 900, "plan " + "1" * 2900, "hop 0 a", "\t"]
        for line in zeros + blanks + words:
            check_raised(self, NoText(0, 0), reopened, helper.SMALL, (), (("a", 3),), line + "\n")
            check_raised(self, NoText(2, 0), reopened, helper.SMALL, (), (), "pin b 2\npass\n" + line + "\npass\n")
            self.check_reopened(helper.SMALL, (), (), line + "\n")
            # What is not whole tells nothing.
            self.assertEqual(reopened(helper.SMALL, (), (), line), House(helper.SMALL, (), ()))

    def test_changes_that_could_not_be_next(self):
        rows = [("plan\n", 0), ("plan 0 2\nplan 0 2\n", 1), ("plan 0\n", 0), ("plan 1\n", None), ("pin a 3\n", 0),
                ("unpin a 1\n", 0), ("unpin a 3\nunpin a 3\n", 1), ("unpin a 3\nplan 0\n", None), ("pin a 1\npin a 1\n", 1),
                ("pass\nplan 0 2\n", 1), ("pass\npass\npass\n", None), ("pass\npass\npass\npass\n", 3),
                ("pass\npass\nplan 1\n", 2), ("pass\nplan 1\n", None), ("pin b 2\nplan 1\n", 1), ("plan 0 2\nplan\n", None)]
        for text, line in rows:
            expected = plain_reopened(helper.SMALL, (), (("a", 3),), text)
            if line is None:
                self.assertIsInstance(expected, list, text)
                self.check_reopened(helper.SMALL, (), (("a", 3),), text)
            else:
                self.assertTrue(helper.same(expected, NoText(line, 1)), text)
                check_raised(self, NoText(line, 1), reopened, helper.SMALL, (), (("a", 3),), text)

    def test_no_restarts_and_an_empty_log(self):
        for fleet in (helper.ALONE, helper.STILL):
            self.assertEqual(reopened(fleet, (), (), ""), House(fleet, (), ()))
            for line, column in (("pass", 1), ("plan", 1), ("plan 0", 0), ("pin ab 0", 0), ("", 0)):
                check_raised(self, NoText(0, column), reopened, fleet, (), (), line + "\n")

    def test_wrong_arguments(self):
        rights = [helper.SMALL, (0, 2), (("a", 3),), "plan 0\n"]
        for place in range(4):
            for thing in [*helper.every_kind(), *helper.otherwise(rights[place])]:
                arguments = [*rights[:place], thing, *rights[place + 1:]]
                kind, told = helper.outcome(House, arguments[:3])
                expected = told if kind == "raised" else None if isinstance(arguments[3], str) else Wrong(3)
                kind, told = helper.outcome(reopened, arguments)
                if expected is not None:
                    self.assertTrue(helper.same([kind, told], ["raised", expected]), arguments)
                else:
                    self.assertFalse(isinstance(told, Wrong), arguments)
        check_raised(self, Wrong(0), reopened, None, None, None, None)
        check_raised(self, Wrong(1), reopened, helper.SMALL, None, None, None)
        check_raised(self, Wrong(2), reopened, helper.SMALL, (), None, None)
        check_raised(self, Wrong(3), reopened, helper.SMALL, (), (), None)
        check_raised(self, Wrong(3), reopened, helper.SMALL, (), (), ["pass\n"])

    def test_long_logs(self):
        fleet = helper.LARGE
        later = helper.later_leases(fleet)
        pins = tuple(lease for lease in later if lease != later[20])
        house = House(fleet, (), pins)
        for _ in range(1000):
            house.edit(later[20])
            house.unpin(later[30])
            house.pin(later[30])
        told = helper.quick(self, reopened, fleet, (), pins, house.log())
        self.assertEqual(told, house)
        self.assertEqual(told.version(), 1000)


if __name__ == "__main__":
    unittest.main()
