"""[14] texts of fleets, plans and pins, and the picture."""

import random
import re
import unittest

import helper
from helper import check, check_raised
from sparehop.errors import NoText, Wrong
from sparehop.fleettexts import fleet_text, picture, pins_text, plan_text, read_fleet, read_pins, read_plan

SMALL = helper.SMALL
FLEETS = (*helper.FLEETS, *helper.drawn_fleets(30, 8, 60, 6))
WORDS = ("service", "restarts", "hop", "pin", "a", "b", "c", "0", "1", "2", "3", "00", "01", "A", "#", "a#", "-1")


# --- what a text is at fault in, by the list of the document ------------------------------------------

def is_number(word, most):
    return re.fullmatch("0|[1-9][0-9]*", word) is not None and int(word) <= most


def fleet_faults(lines):
    """All words at fault in the text of a fleet, as couples of a line and a column."""
    services = [words for words in lines if words[:1] == ["service"]]
    for line, words in enumerate(lines):
        before = [words for words in lines[:line] if words[:1] == ["service"]]
        if words[:1] == ["restarts"]:
            for column, word in enumerate(words[1:], 1):
                if not any(other[1:2] == [word] for other in services):
                    yield line, column
        elif words[:1] == ["service"]:
            if len(words) > 1 and not re.fullmatch("[a-z]{1,12}", words[1]):
                yield line, 1
            if len(words) > 1 and any(other[1:2] == [words[1]] for other in before):
                yield line, 1
            if len(words) > 2 and not is_number(words[2], len(services)):
                yield line, 2
            if len(words) > 2 and any(other[2:3] == [words[2]] for other in before):
                yield line, 2
        elif words:
            yield line, 0
        if words[:1] != ["restarts"]:
            yield from ((line, column) for column in range(3, len(words)))
            yield from ((line, len(words)) for _ in range(1) if 0 < len(words) < 3)
    if not services:
        yield len(lines), 0


def plan_faults(fleet, lines):
    for line, words in enumerate(lines):
        if words and words[0] != "hop":
            yield line, 0
        if len(words) > 1:
            if not is_number(words[1], len(fleet[2]) - 1):
                yield line, 1
            if any(other[1:2] == [words[1]] for other in lines[:line]):
                yield line, 1
        if len(words) > 2 and is_number(words[1], len(fleet[2]) - 1) and words[2] != fleet[2][int(words[1])]:
            yield line, 2
        yield from ((line, column) for column in range(3, len(words)))
        yield from ((line, len(words)) for _ in range(1) if 0 < len(words) < 3)


def pins_faults(fleet, lines):
    for line, words in enumerate(lines):
        if words and words[0] != "pin":
            yield line, 0
        if len(words) > 1 and words[1] not in fleet[0]:
            yield line, 1
        if len(words) > 2:
            begins = [str(begin) for service, begin in helper.plain_leases(fleet) if service == words[1]]
            if words[2] not in begins or words[2] == "0":
                yield line, 2
            if any(other[1:3] == words[1:3] for other in lines[:line]):
                yield line, 2
        yield from ((line, column) for column in range(3, len(words)))
        yield from ((line, len(words)) for _ in range(1) if 0 < len(words) < 3)


class Written(unittest.TestCase):

    def test_texts(self):
        check(self, "service ab 3\nservice b 0\nservice web 2\nrestarts", fleet_text, helper.STILL)
        check(self, "service a 2\nservice b 0\nservice c 3\nrestarts c a c c", fleet_text, helper.SOME)
        check(self, "hop 0 c\nhop 1 a\nhop 2 c\nhop 3 c", plan_text, helper.SOME, (0, 1, 2, 3))
        check(self, "pin a 2\npin c 1\npin c 4", pins_text, helper.SOME, (("a", 2), ("c", 1), ("c", 4)))
        check(self, "", plan_text, helper.SOME, ())
        check(self, "", pins_text, helper.SOME, ())

    def test_what_is_written_is_read(self):
        chosen = random.Random(7)
        for fleet in FLEETS:
            check(self, fleet, read_fleet, fleet_text(fleet))
            check(self, fleet, read_fleet, helper.written_otherwise(chosen, fleet_text(fleet), True))
            check(self, fleet, read_fleet, helper.written_otherwise(chosen, fleet_text(fleet), False))
            for _ in range(3):
                plan = helper.drawn_part(chosen, range(len(fleet[2])))
                pins = helper.drawn_part(chosen, helper.later_leases(fleet))
                check(self, plan, read_plan, fleet, plan_text(fleet, plan))
                check(self, plan, read_plan, fleet, helper.written_otherwise(chosen, plan_text(fleet, plan), False))
                check(self, pins, read_pins, fleet, pins_text(fleet, pins))
                check(self, pins, read_pins, fleet, helper.written_otherwise(chosen, pins_text(fleet, pins), False))

    def test_all_hops_and_all_pins(self):
        every = tuple(range(60))
        later = helper.later_leases(helper.LARGE)
        check(self, every, read_plan, helper.LARGE, plan_text(helper.LARGE, every))
        check(self, later, read_pins, helper.LARGE, pins_text(helper.LARGE, later))

    def test_several_lines_of_restarts_follow_one_another(self):
        text = "restarts b\nservice b 1\nrestarts\nrestarts a a\nservice a 0\nrestarts b a b # b"
        check(self, (("a", "b"), (0, 1), ("b", "a", "a", "b", "a", "b")), read_fleet, text)

    def test_no_line_of_restarts(self):
        check(self, (("a",), (1,), ()), read_fleet, "service a 1")
        check(self, (("restarts", "service"), (0, 2), ()), read_fleet, "service service 2\nservice restarts 0")

    def test_texts_without_words(self):
        for text in ("", "\n", " \n # hop\n", "#"):
            check(self, (), read_plan, SMALL, text)
            check(self, (), read_pins, SMALL, text)
            check(self, (), read_plan, helper.ALONE, text)
            check_raised(self, NoText(len(text.split("\n")), 0), read_fleet, text)

    def test_only_the_blank_and_the_line_feed_part_words(self):
        check_raised(self, NoText(0, 0), read_plan, SMALL, "hop\t0 a")
        check_raised(self, NoText(0, 2), read_plan, SMALL, "hop 0 a\rhop 2 a")
        check_raised(self, NoText(0, 1), read_fleet, "service a\x0b 0")


class Faults(unittest.TestCase):

    def test_fleets(self):
        rows = [
            ("service A 0", 0, 1), ("service abcdefghijklm 0", 0, 1), ("service a1 0", 0, 1), ("service 0 a", 0, 1),
            ("service a 0\nservice a 1", 1, 1), ("service a 0\nservice a 0", 1, 1), ("service a 0\nservice b 0", 1, 2),
            ("service a 2", 0, 2), ("service a 3\nservice b 1", 0, 2), ("service a 00", 0, 2), ("service a 01", 0, 2),
            ("service a -1", 0, 2), ("service a +1", 0, 2), ("service a 1_0", 0, 2), ("service a x", 0, 2),
            ("service a " + "1" * 2900, 0, 2), ("service a " + "9" * 9000, 0, 2), ("service a 0 0", 0, 3),
            ("service", 0, 1), ("service a", 0, 2), ("service a # 0", 0, 2), ("service a#0 0", 0, 2),
            ("service # a 0", 0, 1), ("service A", 0, 1), ("service a 2 0", 0, 2), ("service A 2 0", 0, 1),
            ("Service a 0", 0, 0), ("services a 0", 0, 0), ("restart a", 0, 0), ("hop 0 a", 0, 0), ("pin a 1", 0, 0),
            ("restarts a", 0, 1), ("restarts", 1, 0), ("restarts\n\n", 3, 0), ("service a 0\nrestarts a b a c", 1, 2),
            ("restarts b A\nservice b 0\nservice A 1", 2, 1), ("restarts a\nservice a", 1, 2),
            ("restarts a\nservice", 0, 1), ("service a 0\nservice", 1, 1), ("\n\n x", 2, 0),
            ("service a 1\nrestarts a a a a a a a a x a", 1, 9), ("service a 0\nservice b 1 2\nservice c 9", 1, 3),
            ("service a 0\nservice b 4\nservice b 1", 1, 2), ("restarts c\nservice A 0", 0, 1),
        ]
        for text, line, column in rows:
            check_raised(self, NoText(line, column), read_fleet, text)

    def test_a_place_counts_all_lines_that_begin_with_service(self):
        check_raised(self, NoText(1, 1), read_fleet, "service a 2\nservice")
        check_raised(self, NoText(1, 2), read_fleet, "service a 2\nservice b 3 # service c 0")

    def test_plans(self):
        rows = [
            ("hop 3 a", 0, 1), ("hop 00 a", 0, 1), ("hop 02 a", 0, 1), ("hop -0 a", 0, 1), ("hop a 0", 0, 1),
            ("hop 0 a\nhop 0 a", 1, 1), ("hop 0 a\nhop 0 b", 1, 1), ("hop 0 b", 0, 2), ("hop 1 a", 0, 2),
            ("hop 0 c", 0, 2), ("hop 0 A", 0, 2), ("hop", 0, 1), ("hop 0", 0, 2), ("hop 3", 0, 1), ("hop 0 a a", 0, 3),
            ("hop 0 a b #", 0, 3), ("hop 0 b b", 0, 2), ("hops 0 a", 0, 0), ("pin a 1", 0, 0), ("0 a", 0, 0),
            ("service a 0", 0, 0), ("restarts", 0, 0), ("hop 2 a\n\n# hop\nhop 0 a\nhop 2 a", 4, 1),
            ("hop " + "1" * 2900 + " a", 0, 1), ("hop 0 # a", 0, 2), ("hop 0#a", 0, 2), ("hop 0 a # b\nhop", 1, 1),
            ("hop " + "2" * 9000, 0, 1),
        ]
        for text, line, column in rows:
            check_raised(self, NoText(line, column), read_plan, SMALL, text)
        check_raised(self, NoText(0, 1), read_plan, helper.ALONE, "hop 0 a")

    def test_pins(self):
        rows = [
            ("pin c 1", 0, 1), ("pin A 1", 0, 1), ("pin 1 a", 0, 1), ("pin a 0", 0, 2), ("pin a 2", 0, 2),
            ("pin b 1", 0, 2), ("pin a 4", 0, 2), ("pin a 01", 0, 2), ("pin a -1", 0, 2), ("pin a b", 0, 2),
            ("pin a 1\npin a 1", 1, 2), ("pin a 1\npin b 2\npin a 1", 2, 2), ("pin", 0, 1), ("pin a", 0, 2),
            ("pin c", 0, 1), ("pin a 1 1", 0, 3), ("pin a 0 1", 0, 2), ("pins a 1", 0, 0), ("hop 0 a", 0, 0),
            ("edit a 1", 0, 0), ("\npin a # 1", 1, 2), ("pin a " + "3" * 2900, 0, 2), ("pin a 3\n pin b 2\nx", 2, 0),
            ("pin b 0", 0, 2), ("pin a True", 0, 2), ("pin a None", 0, 2),
        ]
        for text, line, column in rows:
            check_raised(self, NoText(line, column), read_pins, SMALL, text)
        check_raised(self, NoText(0, 2), read_pins, helper.ALONE, "pin a 1")

    def check_drawn(self, chosen, right, faults, function, *fleet):
        """Some words, blanks and lines of a right text are exchanged, again and again."""
        for text in helper.drawn_texts(chosen, right, WORDS):
            found = list(faults(*fleet, helper.plain_lines(text)))
            if found:
                check_raised(self, NoText(*min(found)), function, *fleet, text)
            else:
                helper.called(self, function, *fleet, text)

    def test_drawn_texts(self):
        chosen = random.Random(8)
        for fleet in (SMALL, helper.ALONE, helper.STILL, helper.SOME):
            every, later = range(len(fleet[2])), helper.later_leases(fleet)
            self.check_drawn(chosen, fleet_text(fleet), fleet_faults, read_fleet)
            self.check_drawn(chosen, plan_text(fleet, every), plan_faults, read_plan, fleet)
            self.check_drawn(chosen, pins_text(fleet, later), pins_faults, read_pins, fleet)

    def test_arguments_that_are_not_as_described(self):
        for thing in helper.every_kind():
            if not isinstance(thing, str):
                check_raised(self, Wrong(0), read_fleet, thing)
                for function in (read_plan, read_pins):
                    check_raised(self, Wrong(1), function, SMALL, thing)
            for function in (read_plan, read_pins):
                check_raised(self, Wrong(0), function, thing, "")
                check_raised(self, Wrong(0), function, thing, thing)
                check_raised(self, Wrong(0), function, thing, "at fault")

    def test_strings_of_every_kind(self):
        for thing in helper.every_kind():
            if isinstance(thing, str):
                check_raised(self, NoText(*min(fleet_faults(helper.plain_lines(thing)))), read_fleet, thing)
                for function, faults in ((read_plan, plan_faults), (read_pins, pins_faults)):
                    found = list(faults(SMALL, helper.plain_lines(thing)))
                    if found:
                        check_raised(self, NoText(*min(found)), function, SMALL, thing)
                    else:
                        check(self, (), function, SMALL, thing)

    def test_fleets_with_one_part_otherwise(self):
        for thing in helper.otherwise(SMALL):
            kind, told = helper.outcome(read_plan, (thing, ""))
            if kind == "raised":
                check_raised(self, Wrong(0), read_plan, thing, "")
                check_raised(self, Wrong(0), read_pins, thing, None)
            else:
                self.assertEqual(told, ())


class Pictures(unittest.TestCase):

    def test_pictures(self):
        chosen = random.Random(9)
        for fleet in FLEETS:
            for plan in ((), tuple(range(len(fleet[2]))), helper.drawn_part(chosen, range(len(fleet[2])))):
                rows = helper.plain_courses(fleet, plan)
                lines = []
                for machine in range(len(fleet[0]) + 1):
                    services = [{at: name for name, at in row.items()}.get(machine, ".") for row, _ in rows]
                    lines.append(" ".join([str(machine), *services]))
                check(self, "\n".join(lines), picture, fleet, plan)

    def test_the_smallest_picture(self):
        check(self, "0 .\n1 a", picture, helper.ALONE, ())
        check(self, "0 b\n1 .\n2 web\n3 ab", picture, helper.STILL, ())
        check(self, "0 . a .\n1 a . a", picture, (("a",), (1,), ("a", "a")), (0, 1))


if __name__ == "__main__":
    unittest.main()
