"""Events of a watch, and the lines that stand for them in journals and at desks."""

from wiresindark.lines import number_behind, number_in

CHANGES = ("die", "mend")
KINDS = ("row", "column")


def entry_of(event):
    """The line for an event."""
    if event[0] == "pass":
        return f"pass {event[1]}"
    if event[0] in CHANGES:
        kind, number = event[1]
        return f"{event[0]} {kind} {number}"
    return event[0]


def event_in(line):
    """The event that a line stands for, None if it has none of their forms."""
    if line == "look":
        return ("look",)
    many = number_behind(line, "pass")
    if many is not None:
        return ("pass", many)
    words = line.split(" ")
    if len(words) != 3 or words[0] not in CHANGES or words[1] not in KINDS:
        return None
    number = number_in(words[2])
    return None if number is None else (words[0], (words[1], number))


def let_happen(watch, event):
    """What watch returns for the event: a picture for a look, otherwise None."""
    if event[0] == "look":
        return watch.look()
    if event[0] == "pass":
        return watch.pass_by(event[1])
    if event[0] == "die":
        return watch.die(event[1])
    return watch.mend(event[1])
