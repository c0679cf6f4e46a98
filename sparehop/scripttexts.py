"""Texts of scripts, written and read, and their course told."""

from sparehop.edits import can_be_edited, edited
from sparehop.errors import NoText
from sparehop.fleettexts import lease_column, lease_told, lines_with_words, refuse_wrong
from sparehop.plans import machine_of


def script_text(script):
    """Return the text of a tuple of LEASES."""
    return "\n".join([f"edit {service} {begin}" for service, begin in script])


def read_script(fleet, text):
    """Return the tuple of LEASES that a text tells, whether they can be done or not."""
    refuse_wrong(fleet, text)
    script = []
    for line, words in lines_with_words(text):
        column = lease_column(fleet, "edit", words)
        if column is not None:
            raise NoText(line, column)
        script.append(lease_told(fleet, words))
    return tuple(script)


def told(fleet, plan, pins, script):
    """Return a text that tells what each EDIT does, up to the first one that can't be done."""
    lines = []
    now = plan
    for lease in script:
        service, begin = lease
        if not can_be_edited(fleet, now, pins, lease):
            lines.append(f"stuck {service} {begin}")
            break
        behind = edited(fleet, now, pins, lease)
        machines = (machine_of(fleet, now, lease), machine_of(fleet, behind, lease))
        lines.append(f"edit {service} {begin} from {machines[0]} to {machines[1]}")
        now = behind
    return "\n".join(lines)
