"""[39] and [14] the desk: measured by the state of a house kept by hand, and by forms of lines told once more."""

import random
import re
import unittest

import helper
from helper import check, check_raised
from sparehop.classes import many_plans
from sparehop.desk import Desk
from sparehop.errors import FleetError, NoCommand, NoText, Wrong
from sparehop.fleettexts import fleet_text, plan_text
from sparehop.house import House

SMALL_FLEETS = (helper.SMALL, helper.STILL, helper.SOME, *helper.drawn_fleets(8, 4, 5, 200),
                helper.letters("abcab"), helper.letters("aabba"))
NUMBER = "(0|[1-9][0-9]*)"
FORMS = {
    "edit": f"edit ([a-z]+) {NUMBER}", "pin": f"pin ([a-z]+) {NUMBER}", "unpin": f"unpin ([a-z]+) {NUMBER}",
    "lead": f"lead((?: {NUMBER})*)", "script": f"script((?: {NUMBER})*)", "apart": f"apart((?: {NUMBER})*)",
    "propose": f"propose {NUMBER}((?: {NUMBER})*)", "back": f"back {NUMBER}",
    "grant": f"grant (?:(on|off) ([a-z]+) {NUMBER} {NUMBER}|(spare) {NUMBER} {NUMBER} {NUMBER}|(stay) {NUMBER})",
}
ALONE = "plan version now spare machines pins held edits frozen many picture log pass".split()
SMALL_TEXT = "service a 0\nservice b 1\nrestarts a b a"


def plain_command(fleet, line):
    """The first word of a command, and what its other words stand for, None if a line is none."""
    line = " ".join(re.findall("[^ ]+", line))
    if line in ALONE:
        return (line,)
    word = line.split(" ")[0]
    told = re.fullmatch(FORMS[word], line, re.ASCII) if word in FORMS else None
    if told is None:
        return None
    parts = [int(part) if part.isdigit() else part for part in told.groups() if part is not None]
    if word == "grant":
        return (word, tuple(parts)) if repr(tuple(parts)) in map(repr, helper.every_wish(fleet)) else None
    if word in ("edit", "pin", "unpin"):
        leases = helper.plain_leases(fleet) if word == "edit" else helper.later_leases(fleet)
        return (word, tuple(parts)) if tuple(parts) in leases else None
    if word == "back":
        return (word, parts[0])
    hops = tuple(map(int, re.findall("[0-9]+", told.group(2 if word == "propose" else 1))))
    if hops != tuple(sorted(set(hops))) or any(hop >= len(fleet[2]) for hop in hops):
        return None
    return (word, parts[0], hops) if word == "propose" else (word, hops)


def lease_lines(leases):
    return [f"{lease[0]} {lease[1]}" for lease in leases]


def plain_answer(plain, word):
    """The answer to a question of one word."""
    fleet, plan, pins, now, version, held, machines, spare, _, log = plain.told()
    plans = sorted(helper.plain_needed(fleet, held, plan))
    tables = [helper.plain_table(fleet, other) for other in plans]
    rows = helper.plain_courses(fleet, plan)
    services = [{machine: service for service, machine in told.items()} for told, _ in rows]
    return {
        "plan": [" ".join(map(str, plan))], "version": [str(version)], "now": [str(now)], "spare": [str(spare)],
        "machines": [f"{service} {machines[service]}" for service in sorted(machines)],
        "pins": lease_lines(pins), "held": lease_lines(held), "many": [str(len(plans))],
        "edits": lease_lines(sorted(lease for lease in helper.plain_graph(fleet)[plan] if lease not in held)),
        "frozen": lease_lines(x for x in helper.plain_leases(fleet) if len({table[x] for table in tables}) == 1),
        "picture": [" ".join([str(machine), *(told.get(machine, ".") for told in services)])
                    for machine in range(len(fleet[0]) + 1)],
        "log": log.split("\n")[:-1],
    }[word]


def drawn_line(chosen, plain):
    """A line for a desk whose house is in this state; most of them are commands."""
    fleet = plain.fleet
    name, *things = helper.drawn_change(chosen, plain)
    lease = " ".join(map(str, chosen.choice(helper.plain_leases(fleet))))
    hops = " ".join(map(str, chosen.choice(helper.plain_plans(fleet))))
    wish = " ".join(map(str, chosen.choice(helper.every_wish(fleet))))
    version = chosen.randint(0, len(plain.plans))
    told = {"edit": "edit {} {}", "pin": "pin {} {}", "unpin": "unpin {} {}"}.get(name)
    near = told.format(*things[0]) if told else "lead " + " ".join(map(str, things[-1])) if name in ("lead", "propose") else "pass"
    line = chosen.choice([near, near, near, *ALONE[:12], f"edit {lease}", f"pin {lease}", f"unpin {lease}", f"lead {hops}",
                          f"script {hops}", f"apart {hops}", f"propose {version} {hops}", f"back {version}", f"grant {wish}",
                          f"grant {wish}", f"propose {version} {hops}"])
    words = line.split(" ")
    if chosen.random() < 0.15:
        at = chosen.randint(0, len(words))
        words[at:at + chosen.randint(0, 1)] = chosen.sample(
            ["0", "1", "00", "01", "7", "a", "b", "zz", "#", "plan", "edit", "-1", "9" * 50, "+1", "on", "stay"], chosen.randint(0, 1))
    blanks = [" " * chosen.choice((1, 1, 1, 3)) for _ in words]
    return " " * chosen.choice((0, 0, 2)) + "".join(word + blank for word, blank in zip(words, blanks))


class Desks(unittest.TestCase):

    def check_line(self, desk, plain, line):
        """The answer to a line, or its error, is as told; what its house tells, too."""
        command = plain_command(plain.fleet, line)
        before = desk.house()
        if command is None:
            kind, error = helper.outcome(desk.execute, [line])
            self.assertTrue(helper.same([kind, error], ["raised", NoCommand(line)]), (plain.told(), line, error))
            self.assertEqual(desk.house(), before)
            return "none"
        answer = desk.execute(line)
        word, *things = command
        if word in ("script", "apart"):
            self.check_ways(plain, word, things[0], answer)
        elif word in ALONE and word != "pass":
            self.assertTrue(helper.same(answer, plain_answer(plain, word)), (plain.told(), line, answer))
        else:
            self.assertTrue(helper.same(answer, [self.change(plain, word, things)]), (plain.told(), line, answer))
        self.assertTrue(helper.same(helper.house_told(desk.house()), plain.told()))
        self.assertTrue(word not in ALONE + ["script", "apart"] or word == "pass" or desk.house() == before)
        return word, answer[0].split(" ")[0] if answer else ""

    def change(self, plain, word, things):
        name = {"back": "take_back", "pass": "pass_restart"}.get(word, word)
        if word == "grant":
            things = [(things[0],), dict.fromkeys(helper.plain_leases(plain.fleet), 1)]
        try:
            getattr(plain, name)(*things)
        except FleetError as error:
            return f"refused {type(error).__name__}"
        return "done"

    def check_ways(self, plain, word, hops, answer):
        fleet, plan, held = plain.fleet, plain.plans[-1], plain.held()
        aparts = helper.plain_aparts(fleet, plan, hops)
        barred = [lease for lease in held if aparts[lease]]
        if word == "apart":
            self.assertEqual(answer, [f"{x[0]} {x[1]} {many}" for x, many in sorted(aparts.items()) if many])
        elif barred:
            self.assertEqual(answer, [f"barred {barred[0][0]} {barred[0][1]}"])
        else:
            script = [(line.split(" ")[0], int(line.split(" ")[1])) for line in answer]
            self.assertEqual(lease_lines(script), answer)
            self.assertEqual(len(script), sum(aparts.values()))
            self.assertEqual(helper.plain_behind(fleet, plan, held, script), hops)

    def test_drawn_lines(self):
        chosen = random.Random(201)
        found = {}
        for fleet in SMALL_FLEETS * 4:
            plan = chosen.choice(helper.plain_plans(fleet))
            desk, plain = Desk(fleet_text(fleet), plan_text(fleet, plan)), helper.PlainHouse(fleet, plan, ())
            for _ in range(120):
                key = self.check_line(desk, plain, drawn_line(chosen, plain))
                found[key] = found.get(key, 0) + 1
            for word in ALONE:
                self.check_line(desk, plain, word)
        self.assertGreater(found["none"], 300)
        for word in "edit lead propose back unpin pass grant".split():
            self.assertGreater(found.get((word, "done"), 0), 10, word)
            self.assertGreater(found.get((word, "refused"), 0), 3, word)
        self.assertGreater(found["pin", "done"], 20)
        self.assertGreater(found["script", "barred"], 10)

    def test_lines_that_are_no_commands(self):
        desk = Desk(SMALL_TEXT, "")
        lines = """
            x|Plan|plans|plan 0|version 0|now 0|pass 1|log a|many 0|edits a|picture 1|machines a|pins a 1|spare 0|held 0
            edit|edit a|edit a 2|edit a 1 0|edit c 0|edit 1 a|edit a 01|edit a 4|edit a -1|edit a a|edit a 1 #|# plan
            pin a 0|pin b 0|unpin a 0|pin a 2|pin a|pin|unpin|pin a 1 1|lead a|lead 0 0|lead 2 0|lead 3|lead 00|lead 0,2
            script 1 0|script 3|script a|apart 2 2|apart 9|propose|propose a|propose 01|propose 0 2 0|propose 0 3|propose -1
            propose 0 a|back|back a|back 00|back 0 0|back -1|grant|grant on|grant on a|grant on a 0|grant on a 0 3|grant on a 4 0
            grant on c 0 0|grant on a 0 0 0|grant on 0 a 0|grant on 0 0 0|grant off a 0 00|grant off a 0 01|grant spare 0 1
            grant spare 3 0 0|grant spare 0 2 1|grant spare 0 0 4|grant spare a 0 0|grant spare 0 0 0 0|grant stay|grant stay 3
            grant stay a|grant stay 00|grant stay 0 0|grant at a 0 0|grant grant stay 0|grant a on 0 0|stay 0|on a 0 0|done""".split("\n")
        many = 0
        for line in [part.strip() for row in lines for part in row.split("|")] + ["", " ", "   ", "\t", "plan\t", "~", "a" * 3000]:
            for told in (line, f"  {line} ", line.replace(" ", "  ")):
                check_raised(self, NoCommand(told), desk.execute, told)
                self.assertIsNone(plain_command(helper.SMALL, told), told)
                many += 1
        self.assertGreater(many, 250)
        self.assertEqual(desk.house(), House(helper.SMALL, (), ()))

    def test_long_numbers(self):
        desk = Desk(SMALL_TEXT, "")
        for digits in (2, 39, 40, 41, 400, 2900, 5000):
            self.assertEqual(desk.execute("propose 1" + "0" * digits + " 0 2"), ["refused NoNumber"])
            self.assertEqual(desk.execute("back 1" + "0" * digits), ["refused NoNumber"])
            for line in ("edit a 1", "lead 1", "grant stay 1", "grant on a 1", "grant spare 1", "propose 0 1"):
                check_raised(self, NoCommand(line + "0" * digits), desk.execute, line + "0" * digits)
            check_raised(self, NoCommand("back 0" + "0" * digits), desk.execute, "back 0" + "0" * digits)

    def test_one_line_after_the_other(self):
        desk = Desk(SMALL_TEXT, "hop 0 a")
        rows = [
            ("plan", ["0"]), ("pins", []), ("held", []), ("log", []), ("script 0", []), ("apart  0 ", []),
            ("edits", ["a 1", "a 3", "b 2"]), ("apart 0 1 2", ["a 3 1", "b 2 1"]), ("script 0 1 2", ["b 2", "a 3"]), ("many", ["8"]),
            ("back 0", ["refused Nothing"]), ("back 1", ["refused NoNumber"]), ("unpin a 3", ["refused NoLease"]),
            ("pin a 3", ["done"]), ("pin a 3", ["done"]), ("edit a 0", ["refused NoEdit"]), ("edit a 3", ["refused NoEdit"]),
            ("lead", ["refused NoWay"]), ("lead 0", ["done"]), ("grant stay 0", ["done"]), ("plan", ["2"]),
            ("grant off a 0 0", ["refused NoGrant"]), ("propose 0 0 1", ["refused NoMerge"]), ("frozen", ["a 0", "a 3", "b 0"]),
            ("grant on b 3 1", ["done"]), ("version", ["1"]), ("back 1", ["done"]), ("plan", ["0"]), ("spare", ["2"]),
            ("machines", ["a 0", "b 1"]), ("pass", ["done"]), ("machines", ["a 2", "b 1"]), ("spare", ["0"]), ("now", ["1"]),
            ("version", ["2"]), ("held", ["a 1", "a 3"]), ("script 2", ["barred a 1"]), ("pass", ["done"]), ("pass", ["done"]),
            ("pass", ["refused Nothing"]), ("picture", ["0 a . . .", "1 b b b b", "2 . a a a"]), ("edits", []), ("many", ["1"]),
            ("unpin a 3", ["done"]), ("log", ["pin a 3", "plan 2", "plan 0", "pass", "pass", "pass", "unpin a 3"]),
        ]
        plain = helper.PlainHouse(helper.SMALL, (0,), ())
        for line, answer in rows:
            told = desk.house()
            twin = Desk(SMALL_TEXT, "hop 0 a")
            twin._house = told
            self.assertEqual(twin.execute(line), answer, line)
            self.check_line(desk, plain, line)
            self.assertEqual(twin.house(), desk.house())

    def test_no_restarts_and_no_hops(self):
        desk = Desk("service web 2\nservice ab 3\nservice b 0\n# none", "")
        self.assertEqual(desk.house(), House(helper.STILL, (), ()))
        rows = [("plan", [""]), ("lead", ["done"]), ("propose 0", ["done"]), ("script", []), ("apart", []), ("edits", []),
                ("pass", ["refused Nothing"]), ("many", ["1"]), ("frozen", ["ab 0", "b 0", "web 0"]), ("log", []),
                ("picture", ["0 b", "1 .", "2 web", "3 ab"]), ("grant spare 1 0 0", ["done"]), ("version", ["0"])]
        for line, answer in rows:
            check(self, answer, desk.execute, line)

    def test_too_many_points(self):
        fleet = helper.MORE_POINTS
        desk = Desk(fleet_text(fleet), "")
        for line in ("many", "frozen", "grant stay 0", "grant on a 0 0"):
            check(self, ["refused TooMany"], desk.execute, line)
        self.assertEqual(desk.execute("log"), [])
        desk.execute("pin a 13")
        self.assertEqual(desk.execute("many"), [str(many_plans(fleet, (("a", 13),), ()))])

    def test_all_prices_are_one(self):
        chosen = random.Random(202)
        for fleet in SMALL_FLEETS:
            ones = dict.fromkeys(helper.plain_leases(fleet), 1)
            for wish in [chosen.choice(helper.every_wish(fleet)) for _ in range(8)]:
                desk, plain = Desk(fleet_text(fleet), ""), helper.PlainHouse(fleet, (), ())
                helper.outcome(plain.grant, [(wish,), ones])
                desk.execute("grant " + " ".join(map(str, wish)))
                self.assertEqual(desk.house().plan(), plain.plans[-1])


class Wrongs(unittest.TestCase):

    def test_the_constructor(self):
        for thing in helper.every_kind():
            if not isinstance(thing, str):
                check_raised(self, Wrong(0), Desk, thing, "")
                check_raised(self, Wrong(0), Desk, thing, thing)
                check_raised(self, Wrong(1), Desk, SMALL_TEXT, thing)
                check_raised(self, Wrong(1), Desk, "no fleet", thing)
            else:
                kind, error = helper.outcome(Desk, (thing, "hop 9 z"))
                self.assertEqual((kind, type(error)), ("raised", NoText))
                kind, error = helper.outcome(Desk, (SMALL_TEXT, thing))
                self.assertTrue(kind == "returned" or type(error) is NoText)
        check_raised(self, NoText(1, 0), Desk, "", "hop 0 a")
        check_raised(self, NoText(2, 1), Desk, "service a 0\n\nservice a 1", "hop 0 a")
        check_raised(self, NoText(1, 1), Desk, SMALL_TEXT, "hop 0 a\nhop 3 a")
        check_raised(self, NoText(0, 0), Desk, SMALL_TEXT, "pin a 1")
        self.assertEqual(Desk(SMALL_TEXT, "hop 2 a\n#\n hop 0  a").house(), House(helper.SMALL, (0, 2), ()))

    def test_lines(self):
        desk = Desk(SMALL_TEXT, "")
        for thing in [*helper.every_kind(), "plan\n", "\nplan", "edit a 1\nplan", "pl\nan"]:
            if not isinstance(thing, str) or "\n" in thing:
                check_raised(self, Wrong(0), desk.execute, thing)
            else:
                check_raised(self, NoCommand(thing), desk.execute, thing)
        self.assertEqual(desk.house(), House(helper.SMALL, (), ()))

    def test_twins_and_answers_are_the_callers(self):
        desk = Desk(SMALL_TEXT, "")
        house = desk.house()
        house.lead((0, 2))
        house.pass_restart()
        self.assertEqual(desk.house(), House(helper.SMALL, (), ()))
        desk.execute("edits").clear()
        desk.execute("log").append("plan")
        self.assertEqual([desk.execute("edits"), desk.execute("log")], [["a 1", "a 3", "b 2"], []])
        desk.execute("lead 1")
        self.assertEqual((house.plan(), desk.house().plan()), ((0, 2), (1,)))
        other = Desk(SMALL_TEXT, "")
        self.assertEqual(other.execute("plan"), [""])


if __name__ == "__main__":
    unittest.main()
