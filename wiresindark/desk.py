"""A desk: a watch that is told and asked by lines."""

from wiresindark.entries import event_in, let_happen
from wiresindark.errors import BadLine
from wiresindark.lines import number_behind

DONE = "ok"
NONE = "none"
UNKNOWN = "?"


def _listed(words):
    return ",".join(words) if words else NONE


class Desk:
    """Answers lines from its watch."""

    def __init__(self, watch):
        self.watch = watch

    def say(self, line):
        """The answer to a line."""
        if not isinstance(line, str):
            raise BadLine(line)
        event = event_in(line)
        if event is not None:
            picture = let_happen(self.watch, event)
            return DONE if picture is None else "/".join(picture.rows)
        answer = self._said_alone(line)
        if answer is None:
            answer = self._said_with_number(line)
        if answer is None:
            raise BadLine(line)
        return answer

    def _said_alone(self, line):
        """The answer to a line of one word, None if it is no such line."""
        if line == "undo":
            self.watch.undo()
            return DONE
        if line == "redo":
            self.watch.redo()
            return DONE
        if line == "tick":
            return str(self.watch.tick)
        return str(len(self.watch.events)) if line == "events" else None

    def _said_with_number(self, line):
        """The answer to a line of a word and a number, None if it is no such line."""
        k = number_behind(line, "told")
        if k is not None:
            return self._truths(k)
        for place, word in ((0, "dead"), (1, "alive")):
            k = number_behind(line, word)
            if k is not None:
                return self._wires(k, place)
        return None

    def _truths(self, k):
        names = self.watch.book.names
        return _listed([f"{names[number]} {begin} {fewest}" for number, begin, fewest in self.watch.told(k)])

    def _wires(self, k, place):
        """The wires of one of the two Deads that are surely known."""
        deads = self.watch.surely(k)
        if deads is None:
            return UNKNOWN
        return _listed([f"{kind} {number}" for kind, number in deads[place].wires])
