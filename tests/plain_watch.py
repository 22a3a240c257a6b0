"""A plain record of a watch, and texts of journals and of what was seen, read by regular expressions, for comparison."""

import re

from tests import plain_book
from tests.brute import wires_of
from wiresindark.errors import BadTick, BadWire, NoChange, NothingToRedo, NothingToUndo, SeenAlready, TooLong


class PlainWatch:
    """Keeps nothing but the events that stand and those that were undone; all else is told from them anew."""

    def __init__(self, book, name, begin=0):
        self.book, self.name, self.begin = book, name, begin
        self.events, self.undone = [], []

    def state(self):
        """(tick, dead wires, looks since a wire died or was mended, looks since a wire was mended)."""
        tick, dead, looks, changed, mended = 0, set(), [], 0, 0
        for event in self.events:
            if event[0] == "pass":
                tick += event[1]
            elif event[0] == "die":
                dead.add(event[1])
                changed = len(looks)
            elif event[0] == "mend":
                dead.remove(event[1])
                changed = mended = len(looks)
            else:
                looks.append((tick, self.dots_at(tick, dead)))
        return tick, dead, looks[changed:], looks[mended:]

    def dots_at(self, tick, dead):
        pictures = self.book[self.name].pictures
        lit = pictures[(self.begin + tick) % len(pictures)].dots
        return tuple(dot for dot in lit if not set(wires_of(dot)) & dead)

    def refusal(self, event):
        """(error, value) if the event cannot happen now, otherwise None."""
        tick, dead, _, looks = self.state()
        word, value = event[0], event[-1]
        if word == "pass" and (type(value) is not int or value < 1):
            return BadTick, value
        if word in ("die", "mend"):
            known = type(value) is tuple and len(value) == 2 and type(value[1]) is int and value in self.book.board.wires
            if not known:
                return BadWire, value
            return (NoChange, value) if (value in dead) == (word == "die") else None
        if word == "look" and tick in [when for when, _ in looks]:
            return SeenAlready, tick
        return (TooLong, 13) if word == "look" and len(looks) == 12 else None

    def happen(self, event):
        """(error, value) or None, as refusal; if None, it happened."""
        refused = self.refusal(event)
        if refused is None:
            self.events, self.undone = self.events + [event], []
        return refused

    def undo(self):
        if not self.events:
            return NothingToUndo, None
        self.events, self.undone = self.events[:-1], self.undone + self.events[-1:]
        return None

    def redo(self):
        if not self.undone:
            return NothingToRedo, None
        self.events, self.undone = self.events + self.undone[-1:], self.undone[:-1]
        return None

    def copy(self):
        other = PlainWatch(self.book, self.name, self.begin)
        other.events, other.undone = self.events, self.undone
        return other

    def journal(self):
        lines = ["book"] + ["  " + line for line in self.book.text.split("\n")] + ["watch " + self.name + " " + str(self.begin)]
        for event in self.events:
            words = [event[0]]
            if event[0] == "pass":
                words.append(str(event[1]))
            elif len(event) == 2:
                words += [event[1][0], str(event[1][1])]
            lines.append(" ".join(words))
        return "\n".join(lines)


def event_of(line):
    """The event of a line of a journal, None if it has not the form of any."""
    if line == "look":
        return ("look",)
    found = re.fullmatch(f"pass {plain_book.NUMBER}", line)
    if found:
        return ("pass", int(found[1]))
    found = re.fullmatch(f"(die|mend) (row|column) {plain_book.NUMBER}", line)
    return found and (found[1], (found[2], int(found[3])))


def bad_line_of_journal(text, make_book):
    """The number of the first line that cannot stand there, None if there is none."""
    lines = text.split("\n")
    if lines[0] != "book":
        return 1
    inside = 1
    while inside < len(lines) and lines[inside][:2] == "  ":
        inside += 1
    book_text = "\n".join(line[2:] for line in lines[1:inside])
    number, plain = plain_book.read(book_text)
    if number is not None:
        return number + 1
    found = re.fullmatch(f"watch {plain_book.NAME} {plain_book.NUMBER}", lines[inside]) if inside < len(lines) else None
    if not found or int(found[2]) >= len(plain.films.get(found[1], [])):
        return inside + 1
    watch = PlainWatch(make_book(book_text), found[1], int(found[2]))
    for number, line in enumerate(lines[inside + 1:], inside + 2):
        event = event_of(line)
        if event is None or watch.happen(event) is not None:
            return number
    return None


def bad_line_of_seen(rows, text):
    """The number of the first line of a text of what was seen that cannot stand there; rows are those of the board."""
    last, many, awaited = -1, 0, []
    lines = text.split("\n")
    for number, line in enumerate(lines, 1):
        if awaited:
            form = "".join("[#o]" if dot == "o" else "[.]" for dot in awaited.pop(0))
            if not re.fullmatch("  " + form, line):
                return number
            continue
        found = re.fullmatch(f"look {plain_book.NUMBER}", line)
        if not found or int(found[1]) <= last or many == 12:
            return number
        last, many, awaited = int(found[1]), many + 1, list(rows)
    return len(lines) + 1 if awaited else None
