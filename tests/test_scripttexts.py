"""[20] texts of scripts, and the course of a script: measured by the machines of all plans."""

import itertools
import random
import unittest

import helper
from helper import check, check_raised
from sparehop.errors import NoText, Wrong
from sparehop.scripttexts import read_script, script_text, told

SMALL = helper.SMALL
FLEETS = (*helper.FLEETS, *helper.drawn_fleets(20, 8, 60, 40))
SMALL_FLEETS = (SMALL, helper.ALONE, helper.STILL, helper.SOME, *helper.drawn_fleets(10, 4, 5, 41))
WORDS = ("edit", "Edit", "pin", "stuck", "a", "b", "c", "0", "1", "2", "3", "00", "01", "#", "a#", "-1", "from")


def faults(fleet, lines):
    """All words at fault in the text of a script, as couples of a line and a column."""
    for line, words in enumerate(lines):
        if words and words[0] != "edit":
            yield line, 0
        if len(words) > 1 and words[1] not in fleet[0]:
            yield line, 1
        if len(words) > 2:
            begins = [str(begin) for service, begin in helper.plain_leases(fleet) if service == words[1]]
            if words[2] not in begins:
                yield line, 2
        yield from ((line, column) for column in range(3, len(words)))
        yield from ((line, len(words)) for _ in range(1) if 0 < len(words) < 3)


def plain_told(fleet, plan, pins, script):
    """The course of a script by the machines in its plans."""
    lines = []
    for service, begin in script:
        other = helper.plain_edited(fleet, plan, pins, (service, begin))
        if other is None:
            return "\n".join([*lines, f"stuck {service} {begin}"])
        machines = [helper.plain_table(fleet, told)[(service, begin)] for told in (plan, other)]
        lines.append("edit {} {} from {} to {}".format(service, begin, *machines))
        plan = other
    return "\n".join(lines)


def drawn_leases(chosen, fleet, many):
    return tuple(chosen.choice(helper.plain_leases(fleet)) for _ in range(many))


class Texts(unittest.TestCase):

    def test_texts(self):
        check(self, "edit c 1\nedit c 0\nedit a 2\nedit c 1", script_text, (("c", 1), ("c", 0), ("a", 2), ("c", 1)))
        check(self, "edit abcdefghijkl 10", script_text, (("abcdefghijkl", 10),))
        check(self, "", script_text, ())

    def test_what_is_written_is_read(self):
        chosen = random.Random(42)
        for fleet in FLEETS:
            for many in (0, 1, 2, 7, 30):
                script = drawn_leases(chosen, fleet, many)
                text = script_text(script)
                check(self, script, read_script, fleet, text)
                check(self, script, read_script, fleet, helper.written_otherwise(chosen, text, True))

    def test_a_script_of_two_thousand_edits(self):
        script = drawn_leases(random.Random(43), helper.LARGE, 2000)
        text = helper.quick(self, script_text, script)
        self.assertEqual(text.count("\n"), 1999)
        self.assertEqual(helper.quick(self, read_script, helper.LARGE, text), script)

    def test_lines_in_order_and_doubled_ones(self):
        text = "edit b 2\nedit a 3\n\n  edit   b 2 # again\nedit a 0# edit a 1\nedit a 3"
        check(self, (("b", 2), ("a", 3), ("b", 2), ("a", 0), ("a", 3)), read_script, SMALL, text)

    def test_texts_without_words(self):
        for text in ("", "\n", " \n # edit c\n", "#", "   "):
            check(self, (), read_script, SMALL, text)
            check(self, (), read_script, helper.ALONE, text)

    def test_a_service_that_never_restarts(self):
        check(self, (("web", 0),), read_script, helper.STILL, "edit web 0")
        check_raised(self, NoText(0, 2), read_script, helper.STILL, "edit web 1")

    def test_faults(self):
        rows = [
            ("edit c 1", 0, 1), ("edit A 1", 0, 1), ("edit 1 a", 0, 1), ("edit a 2", 0, 2), ("edit b 1", 0, 2),
            ("edit a 4", 0, 2), ("edit a 00", 0, 2), ("edit a 01", 0, 2), ("edit a -1", 0, 2), ("edit a +1", 0, 2),
            ("edit a b", 0, 2), ("edit a True", 0, 2), ("edit a None", 0, 2), ("edit", 0, 1), ("edit a", 0, 2),
            ("edit c", 0, 1), ("edit # a 1", 0, 1), ("edit a#1 1", 0, 2), ("edit a # 1", 0, 2), ("edit a 1 1", 0, 3),
            ("edit a 1 from 0 to 2", 0, 3), ("edit a 2 1", 0, 2), ("edits a 1", 0, 0), ("Edit a 1", 0, 0),
            ("pin a 1", 0, 0), ("stuck a 1", 0, 0), ("a 1", 0, 0), ("hop 0 a", 0, 0), ("\n\n# x\n x", 3, 0),
            ("edit a 1\nedit a 1\nedit a", 2, 2), ("edit a 1 x\nedit", 0, 3), ("edit\ta 1", 0, 0),
            ("edit a 1\redit a 1", 0, 2), ("edit a " + "3" * 2900, 0, 2), ("edit a " + "3" * 9000, 0, 2),
        ]
        for text, line, column in rows:
            check_raised(self, NoText(line, column), read_script, SMALL, text)
        check(self, (("a", 0),), read_script, helper.ALONE, "edit a 0")
        check_raised(self, NoText(0, 2), read_script, helper.ALONE, "edit a 1")

    def check_text(self, fleet, text):
        lines = helper.plain_lines(text)
        found = list(faults(fleet, lines))
        if found:
            check_raised(self, NoText(*min(found)), read_script, fleet, text)
        else:
            script = tuple((words[1], int(words[2])) for words in lines if words)
            check(self, script, read_script, fleet, text)

    def test_drawn_texts(self):
        chosen = random.Random(44)
        for fleet in (SMALL, helper.ALONE, helper.STILL, helper.SOME):
            for text in helper.drawn_texts(chosen, script_text(drawn_leases(chosen, fleet, 4)), WORDS):
                self.check_text(fleet, text)

    def test_arguments_that_are_not_as_described(self):
        for thing in helper.every_kind():
            if isinstance(thing, str):
                self.check_text(SMALL, thing)
            else:
                check_raised(self, Wrong(1), read_script, SMALL, thing)
            check_raised(self, Wrong(0), read_script, thing, "")
            check_raised(self, Wrong(0), read_script, thing, thing)
            check_raised(self, Wrong(0), read_script, thing, "at fault")

    def test_fleets_with_one_part_otherwise(self):
        for thing in helper.otherwise(SMALL):
            kind, got = helper.outcome(read_script, (thing, ""))
            if kind == "raised":
                check_raised(self, Wrong(0), read_script, thing, "")
                check_raised(self, Wrong(0), read_script, thing, None)
            else:
                self.assertEqual(got, ())


class Courses(unittest.TestCase):

    def test_all_short_scripts(self):
        for fleet in (SMALL, helper.ALONE, helper.STILL, (("a", "b"), (2, 0), ("b", "a"))):
            for many in range(4):
                for script in itertools.product(helper.plain_leases(fleet), repeat=many):
                    check(self, plain_told(fleet, (), (), script), told, fleet, (), (), script)

    def test_drawn_scripts(self):
        chosen = random.Random(45)
        for fleet in SMALL_FLEETS:
            for plan in helper.plain_plans(fleet):
                for pins in ((), helper.drawn_part(chosen, helper.later_leases(fleet)), helper.later_leases(fleet)):
                    script, now = [], plan
                    for _ in range(chosen.randint(0, 6)):
                        edits = {x: y for x, y in helper.plain_graph(fleet)[now].items() if x not in pins}
                        if edits:
                            script.append(chosen.choice(list(edits)))
                            now = edits[script[-1]]
                    for more in ((), *[(lease,) for lease in helper.plain_leases(fleet)]):
                        leases = (*script, *more, *script[-1:])
                        check(self, plain_told(fleet, plan, pins, leases), told, fleet, plan, pins, leases)

    def test_nothing_is_told_behind_the_first_one_that_is_stuck(self):
        script = (("a", 3), ("b", 0), ("b", 2), ("b", 0))
        check(self, "edit a 3 from 0 to 2\nstuck b 0", told, SMALL, (0, 2), (), script)
        check(self, "stuck a 3", told, SMALL, (0, 2), (("a", 3),), script)
        check(self, "", told, SMALL, (0, 2), (), ())

    def test_a_script_of_two_thousand_edits(self):
        for fleet, one, _ in helper.FAR:
            # The last stretch has a lease of its own, which can be edited whatever the plan is.
            service = fleet[2][-1]
            lines = helper.quick(self, told, fleet, one, (), ((service, 60),) * 2000).split("\n")
            before = helper.plain_table(fleet, one)[(service, 60)]
            behind = helper.plain_courses(fleet, one)[60][1]
            there, back = (f"edit {service} 60 from {x} to {y}" for x, y in ((before, behind), (behind, before)))
            self.assertEqual(lines, [there, back] * 1000)


if __name__ == "__main__":
    unittest.main()
