"""Journals of watches, and watches that are read back from them."""

import random
import unittest

from tests import plain_book, plain_watch
from tests.plain_watch import PlainWatch
from tests.test_watch import outcome, state_of, step_of
from tests.values import any_values
from wiresindark.books import Book
from wiresindark.errors import BadBook, BadJournal, NothingToRedo
from wiresindark.journals import read_journal
from wiresindark.watch import Watch

BOOK_TEXT = "board\n  ooo\n  oo.\nsign i\n  #\n  #\nfilm a\n  still i,i 2\n  dark 1\nfilm b\n  run i 3"
HEAD = "book\n" + "\n".join("  " + line for line in BOOK_TEXT.split("\n")) + "\n"
EVENTS = [("pass", 2), ("look",), ("die", ("row", 1)), ("pass", 1), ("look",), ("mend", ("row", 1)), ("die", ("column", 0)), ("look",)]
LINES = ["pass 2", "look", "die row 1", "pass 1", "look", "mend row 1", "die column 0", "look"]
TEXT = HEAD + "watch a 1\n" + "\n".join(LINES)
# The number of the line of the watch.
PLACE = 13
CHARACTERS = "abpassdielook#.o, 0129\n\t"


def some_watch(generator):
    """A watch with some events, of which some can be redone."""
    book = Book(generator.choice(plain_book.some_texts(generator, 1)))
    name = generator.choice(book.names)
    watch = Watch(book, name, generator.randrange(len(book[name])))
    for _ in range(generator.randrange(14)):
        wire = generator.choice(book.board.wires)
        events = (("pass", generator.randint(1, 12)), ("pass", 1), ("look",), ("look",), ("die", wire), ("mend", wire))
        outcome(step_of(watch, generator.choice(events)))
        if generator.random() < 0.1:
            outcome(watch.undo)
    return watch


class JournalTest(unittest.TestCase):
    def setUp(self):
        self.watch = Watch(Book(BOOK_TEXT), "a", 1)
        for event in EVENTS:
            step_of(self.watch, event)()

    def test_line_by_line(self):
        self.assertEqual(self.watch.journal(), TEXT)
        self.assertEqual(Watch(Book(BOOK_TEXT), "b", 3).journal(), HEAD + "watch b 3")
        self.watch.undo()
        self.assertEqual(self.watch.journal().split("\n"), TEXT.split("\n")[:-1])
        self.watch.pass_by(999999999)
        self.assertEqual(self.watch.journal().split("\n")[-1], "pass 999999999")

    def test_read_back(self):
        self.watch.undo()
        again = read_journal(self.watch.journal())
        self.assertIs(type(again), Watch)
        self.assertEqual(again, self.watch)
        self.assertEqual(state_of(again), state_of(self.watch))
        # What was undone is not in the text.
        self.assertEqual(outcome(again.redo), (NothingToRedo, None))
        self.assertEqual(read_journal(text=TEXT).journal(), TEXT)
        self.assertEqual(read_journal(HEAD + "watch b 0"), Watch(Book(BOOK_TEXT), "b"))

    def test_any_watch(self):
        generator = random.Random(280)
        for _ in range(200):
            watch = some_watch(generator)
            again = read_journal(watch.journal())
            self.assertEqual((state_of(again), again), (state_of(watch), watch))
            self.assertEqual(again.journal(), watch.journal())
            self.assertEqual(outcome(again.redo), (NothingToRedo, None))
            plain = PlainWatch(watch.book, watch.name, watch.begin)
            plain.events = list(watch.events)
            self.assertEqual(watch.journal(), plain.journal())

    def test_a_very_long_day(self):
        watch = Watch(Book(BOOK_TEXT), "b")
        for _ in range(400):
            for event in (("pass", 999999999), ("look",), ("die", ("column", 2)), ("pass", 7), ("look",), ("mend", ("column", 2))):
                step_of(watch, event)()
        text = watch.journal()
        self.assertGreater(len(text), 20000)
        self.assertEqual(state_of(read_journal(text)), state_of(watch))


class BadJournalTest(unittest.TestCase):
    def bad(self, number, text):
        with self.subTest(text=text):
            with self.assertRaises(BadJournal) as caught:
                read_journal(text)
            self.assertEqual(caught.exception.value, number)
            self.assertIs(type(caught.exception.value), int)
            if isinstance(text, str):
                self.assertEqual(plain_watch.bad_line_of_journal(text, Book), number)

    def test_no_string(self):
        for value in any_values():
            if isinstance(value, str):
                self.bad(1, value)
            else:
                self.bad(0, value)
        with self.assertRaises(BadJournal) as caught:
            read_journal(text=[TEXT])
        self.assertEqual(caught.exception.value, 0)

    def test_the_first_line(self):
        for line in ("", " book", "book ", "Book", "books", "  book", "book 1", "book\r", "board", "watch a 0"):
            self.bad(1, line + TEXT[4:])
        self.bad(1, "\n" + TEXT)
        self.bad(1, TEXT[5:])

    def test_the_end_of_the_text(self):
        lines = TEXT.split("\n")
        for many in range(1, len(lines)):
            text = "\n".join(lines[:many])
            if many < PLACE:
                self.bad(many + 1, text)
            self.bad(many + 1, text + "\n")
        self.bad(len(lines) + 1, TEXT + "\n")
        self.bad(2, "book")
        self.bad(2, "book\n")
        self.bad(2, "book\nwatch a 0")

    def test_lines_of_the_book(self):
        lines = BOOK_TEXT.split("\n")
        for at in range(len(lines)):
            for other in ("", "  ", "x", lines[at] + " ", " " + lines[at], "sign i", "film a", "board"):
                changed = lines[:at] + [other] + lines[at + 1:]
                try:
                    Book("\n".join(changed))
                except BadBook as error:
                    number = error.value + 1
                    text = "book\n" + "\n".join("  " + line for line in changed) + "\nwatch a 1\nlook"
                    self.bad(number, text)
        # The rows are not those of a board, whatever comes behind.
        for behind in ("watch a 0", "watch x 0", "", "watch a 0\nlook\nlook"):
            self.bad(2, "book\n  board\n    o.\n    o.\n  film a\n    dark 1\n" + behind)
        # A block that is too short, and one that goes on.
        self.bad(5, "book\n  board\n    oo\n  film a\nwatch a 0")
        self.bad(5, "book\n  board\n    oo\n  film a")
        self.bad(4, "book\n  board\n    oo\nwatch a 0")
        self.bad(6, "book\n  board\n    oo\n  film a\n    dark 1\n  film a\n    dark 1\nwatch a 0")

    def test_blanks_ahead_of_the_book(self):
        lines = TEXT.split("\n")
        for at in range(1, PLACE - 1):
            for other in (lines[at][1:], lines[at][2:], " " + lines[at]):
                changed = lines[:at] + [other] + lines[at + 1:]
                text = "\n".join(changed)
                self.bad(plain_watch.bad_line_of_journal(text, Book), text)
        self.bad(PLACE, HEAD + "  watch a 1")
        self.bad(PLACE, HEAD + " watch a 1")
        self.bad(PLACE, HEAD + "   dark 1\nwatch a 1")

    def test_the_line_of_the_watch(self):
        wrong = ["", "watch", "watch a", "watch a ", "watch a 3", "watch a 4", "watch a 01", "watch a 00", "watch a -1", "watch a x",
                 "watch a 1 ", "watch  a 1", "watch a  1", "watch a 1 1", "watch c 0", "watch i 0", "watch A 0", "watch  0", "watch 0 a",
                 "Watch a 0", "watching a 0", "look", "pass 1", "watch b 4", "watch a 999999999", "watch a,b 0", "watch a\t0", "watch 0",
                 "watch a 1\r", "watch a +1", "watch abcdefghi 0"]
        for line in wrong:
            self.bad(PLACE, HEAD + line)
            self.bad(PLACE, HEAD + line + "\nlook")
        for line in ("watch a 0", "watch a 2", "watch b 0", "watch b 3"):
            self.assertEqual(read_journal(HEAD + line).journal(), HEAD + line)
        self.bad(PLACE + 1, HEAD + "watch a 0\nwatch a 0")

    def test_forms_of_events(self):
        wrong = ["", " ", "pass", "pass ", "pass 01", "pass -1", "pass x", "pass 1 ", "pass  1", "pass 1 1", " pass 1", "Pass 1", "passes 1",
                 "look ", " look", "Look", "look 1", "looks", "  look", "die", "die row", "die row ", "die row 01", "die row x", "die row -1",
                 "die row 1 ", "die  row 1", "die row  1", "die rows 1", "die wire 1", "die 1", "die 1 row", "die row 1 1", "die column",
                 "Die row 1", "mend", "mend row", "mend column 00", "mend rows 1", "undo", "redo", "tick", "events", "told 1", "dead 1", "alive 1",
                 "pass +1", "pass 1.", "pass \u0661", "look\r", "die row 1\t", "tried", "die,row,1", "book", "watch a 1"]
        for line in wrong:
            self.bad(PLACE + 1, HEAD + "watch a 1\n" + line)
            self.bad(PLACE + 3, HEAD + "watch a 1\npass 3\ndie row 0\n" + line + "\npass 1")

    def test_events_that_raise_an_error(self):
        for line in ("pass 0", "die row 2", "die column 3", "die row 999999999", "mend row 2", "mend row 0", "mend column 0"):
            self.bad(PLACE + 1, HEAD + "watch a 1\n" + line)
            self.bad(PLACE + 2, HEAD + "watch a 1\nlook\n" + line + "\nlook")
        self.bad(PLACE + 2, HEAD + "watch a 1\ndie row 0\ndie row 0")
        self.bad(PLACE + 3, HEAD + "watch a 1\ndie row 0\nmend row 0\nmend row 0")
        self.bad(PLACE + 2, HEAD + "watch a 1\nlook\nlook")
        self.bad(PLACE + 3, HEAD + "watch a 1\nlook\ndie row 1\nlook")
        self.assertEqual(len(read_journal(HEAD + "watch a 1\ndie row 1\nlook\nmend row 1\nlook").events), 4)
        days = "\nlook\npass 1" * 12
        self.assertEqual(len(read_journal(HEAD + "watch a 1" + days).seen), 12)
        self.bad(PLACE + 25, HEAD + "watch a 1" + days + "\nlook")

    def test_lines_left_out_twice_or_exchanged(self):
        lines = TEXT.split("\n")
        numbers = {}
        for at in range(len(lines)):
            for other in (lines[:at] + lines[at + 1:], lines[:at + 1] + lines[at:], lines[:at] + lines[at:at + 2][::-1] + lines[at + 2:]):
                text = "\n".join(other)
                number = plain_watch.bad_line_of_journal(text, Book)
                numbers[number] = True
                if number is None:
                    self.assertEqual(read_journal(text).journal(), text)
                else:
                    self.bad(number, text)
        self.assertGreater(len(numbers), 12)

    def test_changed_texts(self):
        generator = random.Random(281)
        found = []
        for _ in range(250):
            journal = some_watch(generator).journal()
            for _ in range(4):
                text = plain_book.other_lines(generator, journal)
                if text and generator.random() < 0.4:
                    text = plain_book.other_characters(generator, text, CHARACTERS)
                number = plain_watch.bad_line_of_journal(text, Book)
                found.append(number)
                if number is None:
                    self.assertEqual(read_journal(text).journal(), text)
                else:
                    self.bad(number, text)
        self.assertGreater(min(found.count(None), len(set(found))), 12)


if __name__ == "__main__":
    unittest.main()
