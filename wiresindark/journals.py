"""Watches from their journals."""

from wiresindark.books import Book
from wiresindark.entries import event_in, let_happen
from wiresindark.errors import BadBook, BadJournal, WireError
from wiresindark.lines import AHEAD, Reader, number_in
from wiresindark.watch import Watch


def _book(reader):
    """The book whose lines come next."""
    ahead = reader.number - 1
    lines = []
    while reader.upcoming().startswith(AHEAD):
        lines.append(reader.upcoming()[len(AHEAD):])
        reader.go_on()
    try:
        return Book("\n".join(lines))
    except BadBook as e:
        raise BadJournal(ahead + e.value) from None


def _watch(reader, book):
    """The watch that the line that comes next begins."""
    words = reader.upcoming().split(" ")
    begin = number_in(words[2]) if len(words) == 3 and words[0] == "watch" else None
    if begin is None:
        raise BadJournal(reader.number)
    try:
        return Watch(book, words[1], begin)
    except WireError:
        raise BadJournal(reader.number) from None


def _take_event(watch, reader):
    """Lets the event of the line that comes next happen."""
    event = event_in(reader.upcoming())
    if event is None:
        raise BadJournal(reader.number)
    try:
        let_happen(watch, event)
    except WireError:
        raise BadJournal(reader.number) from None


def read_journal(text):
    """The watch whose journal this is."""
    if not isinstance(text, str):
        raise BadJournal(0)
    reader = Reader(text)
    if reader.upcoming() != "book":
        raise BadJournal(reader.number)
    reader.go_on()
    watch = _watch(reader, _book(reader))
    reader.go_on()
    while not reader.has_ended():
        _take_event(watch, reader)
        reader.go_on()
    return watch
