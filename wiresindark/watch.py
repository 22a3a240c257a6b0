"""A watch: a live board on which a film runs, whose wires die and are mended, and at which one looks."""

from wiresindark.entries import entry_of
from wiresindark.errors import (
    BadTick, BadWire, NoChange, NothingSeen, NothingToRedo, NothingToUndo, SeenAlready, TooLong,
)
from wiresindark.kinds import MOST_LOOKS, is_number_to, is_tick, is_word_and_integer
from wiresindark.lines import indented
from wiresindark.pictures import Dead
from wiresindark.sights import dead_of_wires
from wiresindark.telling import expected, surely, told


class Watch:
    """What is the case now, all events that led to it, and all that was undone last.

    What is the case is kept ahead of each event, so that undoing takes back all of it.
    """

    def __init__(self, book, name, begin=0):
        film = book[name]
        if not is_number_to(begin, len(film) - 1):
            raise BadTick(begin)
        self.book = book
        self.name = name
        self.begin = begin
        self.events = ()
        self._set_now((0, Dead(book.board), (), ()))
        self._past = ()
        self._undone = ()

    def _now(self):
        return self.tick, self.dead, self.seen, self.seen_dying

    def _set_now(self, now):
        self.tick, self.dead, self.seen, self.seen_dying = now

    def _go_on(self, event, now):
        """An event happens, behind which this is the case."""
        self._past = self._past + (self._now(),)
        self.events = self.events + (event,)
        self._undone = ()
        self._set_now(now)

    def pass_by(self, many=1):
        if not is_tick(many) or many == 0:
            raise BadTick(many)
        self._go_on(("pass", many), (self.tick + many, self.dead, self.seen, self.seen_dying))

    def _need_wire(self, wire):
        # The kind is asked first, since ("row", True) would be equal to ("row", 1).
        if not is_word_and_integer(wire) or wire not in self.book.board.wires:
            raise BadWire(wire)

    def die(self, wire):
        self._need_wire(wire)
        if wire in self.dead:
            raise NoChange(wire)
        dead = self.dead | dead_of_wires(self.book.board, (wire,))
        self._go_on(("die", wire), (self.tick, dead, (), self.seen_dying))

    def mend(self, wire):
        self._need_wire(wire)
        if wire not in self.dead:
            raise NoChange(wire)
        dead = self.dead - dead_of_wires(self.book.board, (wire,))
        self._go_on(("mend", wire), (self.tick, dead, (), ()))

    def look(self):
        """The picture that is seen now."""
        if self.tick in [tick for tick, picture in self.seen_dying]:
            raise SeenAlready(self.tick)
        if len(self.seen_dying) == MOST_LOOKS:
            raise TooLong(MOST_LOOKS + 1)
        picture = self.book[self.name][self.begin + self.tick] - self.dead
        look = ((self.tick, picture),)
        self._go_on(("look",), (self.tick, self.dead, self.seen + look, self.seen_dying + look))
        return picture

    def _seen_for(self, dying):
        # No other value than True itself says that wires may have died.
        seen = self.seen_dying if dying is True else self.seen
        if not seen:
            raise NothingSeen(None)
        return seen

    def told(self, k, *, dying=False):
        """What can be running, as telling.told tells it for the films of the book."""
        return told(self.book.films, self._seen_for(dying), k, dying=dying)

    def surely(self, k, *, dying=False):
        """The wires that are surely dead and surely alive, as telling.surely tells them."""
        return surely(self.book.films, self._seen_for(dying), k, dying=dying)

    def expected(self, k, tick):
        """The dots that are surely lit and surely dark at tick, as telling.expected tells them."""
        return expected(self.book.films, self._seen_for(False), k, tick)

    def undo(self):
        if not self.events:
            raise NothingToUndo(None)
        self._undone = self._undone + ((self.events[-1], self._now()),)
        self._set_now(self._past[-1])
        self._past = self._past[:-1]
        self.events = self.events[:-1]

    def redo(self):
        if not self._undone:
            raise NothingToRedo(None)
        undone = self._undone[:-1]
        event, now = self._undone[-1]
        self._go_on(event, now)
        self._undone = undone

    def tried(self, look, *, keep=False):
        """What look returns for this watch; unless keep is True, nothing of what it did to it stays."""
        tick, dead, seen, seen_dying = self._now()
        events, past, undone = self.events, self._past, self._undone
        kept = None
        try:
            result = look(self)
            if keep is True:
                kept = True
        finally:
            # Each attribute by itself: this block may call nothing, and it has to stand, whatever error look raises.
            if kept is None:
                self.tick, self.dead, self.seen, self.seen_dying = tick, dead, seen, seen_dying
                self.events, self._past, self._undone = events, past, undone
        return result

    def copy(self):
        """A watch like this one, that goes its own way from now on."""
        other = Watch(self.book, self.name, self.begin)
        other.events, other._past, other._undone = self.events, self._past, self._undone
        other._set_now(self._now())
        return other

    def journal(self):
        """The text from which journals.read_journal makes an equal watch."""
        lines = ["book"] + indented(self.book.text.split("\n"))
        lines = lines + [f"watch {self.name} {self.begin}"]
        return "\n".join(lines + [entry_of(event) for event in self.events])

    def __iadd__(self, other):
        self.pass_by(other)
        return self

    def __eq__(self, other):
        if not isinstance(other, Watch) or self.book != other.book:
            return False
        return self.name == other.name and self.begin == other.begin and self.events == other.events
