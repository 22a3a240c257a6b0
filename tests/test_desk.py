"""A desk: each line and its answer, and the lines that it refuses."""

import random
import unittest

from tests import plain_book
from tests.plain_watch import event_of
from tests.test_watch import outcome, state_of, step_of, undone_events
from tests.values import any_values, refused
from wiresindark.books import Book
from wiresindark.desk import Desk
from wiresindark.errors import (
    BadLine, BadNumber, BadTick, BadWire, NoChange, NothingSeen, NothingToRedo, NothingToUndo, SeenAlready, TooLong,
)
from wiresindark.watch import Watch

TEXT = "board\n  ooo\n  oo.\nsign i\n  #\n  #\nsign l\n  ##\n  ##\nfilm left\n  still i 1\n  dark 1\nfilm run\n  run l 1"
BOOK = Book(TEXT)


def words_of(wires):
    return ",".join(kind + " " + str(number) for kind, number in wires) or "none"


class DeskTest(unittest.TestCase):
    def setUp(self):
        self.watch = Watch(BOOK, "run", 1)
        self.desk = Desk(self.watch)

    def say(self, line):
        answer = self.desk.say(line)
        self.assertIs(type(answer), str)
        return answer

    def unchanged(self, line, error, value):
        before, undone = state_of(self.watch), undone_events(self.watch)
        self.assertEqual(outcome(lambda: self.desk.say(line)), (error, value))
        self.assertEqual((state_of(self.watch), undone_events(self.watch)), (before, undone))

    def test_this_very_watch(self):
        self.assertIs(self.desk.watch, self.watch)
        self.assertIs(Desk(watch=self.watch).watch, self.watch)
        self.say("pass 3")
        self.assertEqual(self.watch.events, (("pass", 3),))
        self.watch.pass_by(2)
        self.assertEqual(self.say("tick"), "5")
        self.assertEqual(self.desk.say(line="events"), "2")

    def test_events(self):
        self.assertEqual([self.say(line) for line in ("tick", "events")], ["0", "0"])
        self.assertEqual(self.say("pass 1"), "ok")
        self.assertEqual(self.say("die column 1"), "ok")
        self.assertEqual(self.say("die row 1"), "ok")
        self.assertEqual(self.say("mend column 1"), "ok")
        self.assertEqual(self.say("look"), "/".join((BOOK["run"][2] - self.watch.dead).rows))
        self.assertEqual(self.watch.events, (("pass", 1), ("die", ("column", 1)), ("die", ("row", 1)), ("mend", ("column", 1)), ("look",)))
        self.assertEqual([self.say(line) for line in ("tick", "events")], ["1", "5"])
        self.assertEqual([self.say(line) for line in ("undo", "events", "undo", "redo", "redo", "events")],
                         ["ok", "4", "ok", "ok", "ok", "5"])
        self.say("pass 999999999")
        self.assertEqual(self.say("tick"), "1000000000")

    def test_rows_of_a_look(self):
        self.assertEqual(self.say("look"), "#o#/#o.")
        self.say("pass 1")
        self.assertEqual(self.say("look"), "o##/o#.")
        self.assertEqual(Desk(Watch(Book("board\n  o\nfilm a\n  dark 1"), "a")).say("look"), "o")

    def test_truths(self):
        self.say("look")
        for k in range(21):
            self.assertEqual(self.say(f"told {k}"), self.truths(k))
        self.assertEqual(self.say("told 0"), "run 1 0")
        self.say("pass 1")
        self.say("die row 0")
        self.say("die row 1")
        self.say("look")
        self.assertEqual(self.say("told 0"), "left 0 0")
        self.assertEqual(self.say("told 2"), "left 0 0,left 1 1,run 0 2,run 1 2,run 2 2")

    def truths(self, k):
        return ",".join(f"{BOOK.names[number]} {begin} {fewest}" for number, begin, fewest in self.watch.told(k)) or "none"

    def test_nothing_told(self):
        book = Book("board\n  oo\nsign i\n  #\nfilm a\n  still i 1\nfilm b\n  still i,i 1")
        watch = Watch(book, "a")
        desk = Desk(watch)
        for wire in book.board.wires:
            watch.die(wire)
        desk.say("look")
        self.assertEqual([desk.say(line) for line in ("told 0", "dead 0", "alive 0")], ["none", "?", "?"])
        self.assertEqual([desk.say(line) for line in ("told 1", "dead 1", "alive 1")], ["a 0 1,b 0 1", "none", "column 1"])
        self.assertEqual([desk.say(line) for line in ("dead 2", "alive 2")], ["none", "none"])

    def test_nothing_told_while_wires_died(self):
        """The desk asks for what was seen since a wire died."""
        watch = Watch(BOOK, "left")
        desk = Desk(watch)
        for line in ("look", "die row 0", "die row 1"):
            desk.say(line)
        for line in ("told 1", "dead 1", "alive 1"):
            self.assertEqual(outcome(lambda: desk.say(line)), (NothingSeen, None))
        desk.say("pass 2")
        desk.say("look")
        self.assertEqual([desk.say(line) for line in ("told 1", "dead 1", "alive 1")], ["left 0 1,left 1 0", "none", "none"])
        self.assertEqual(watch.told(1, dying=True), ((0, 0, 1),))

    def test_wires(self):
        self.say("die row 1")
        self.say("die column 2")
        self.say("look")
        self.say("pass 1")
        self.say("look")
        for k in range(21):
            deads = self.watch.surely(k)
            for word, place in (("dead", 0), ("alive", 1)):
                self.assertEqual(self.say(f"{word} {k}"), "?" if deads is None else words_of(deads[place].wires))
        self.assertEqual(self.say("dead 2"), "column 2,row 1")
        self.assertEqual(self.say("alive 2"), "column 0,column 1,row 0")
        self.assertEqual(self.say("dead 0"), "?")

    def test_what_the_watch_raises(self):
        for word in ("told", "dead", "alive"):
            self.unchanged(f"{word} 1", NothingSeen, None)
            self.unchanged(f"{word} 21", NothingSeen, None)
        self.unchanged("undo", NothingToUndo, None)
        self.unchanged("redo", NothingToRedo, None)
        self.say("die column 2")
        self.say("look")
        self.say("pass 1")
        self.say("undo")
        for word in ("told", "dead", "alive"):
            for k in (21, 22, 999999999):
                self.unchanged(f"{word} {k}", BadNumber, k)
        self.unchanged("look", SeenAlready, 0)
        self.unchanged("pass 0", BadTick, 0)
        self.unchanged("die row 2", BadWire, ("row", 2))
        self.unchanged("die column 3", BadWire, ("column", 3))
        self.unchanged("mend column 999999999", BadWire, ("column", 999999999))
        self.unchanged("die column 2", NoChange, ("column", 2))
        self.unchanged("mend row 0", NoChange, ("row", 0))
        for _ in range(11):
            self.say("pass 1")
            self.say("look")
        self.say("pass 1")
        self.unchanged("look", TooLong, 13)

    def test_no_line(self):
        wrong = ["", " ", "look ", " look", "Look", "look 1", "look\n", "look\nlook", "pass", "pass ", "pass 01", "pass x", "pass -1", "pass 1 ",
                 "pass  1", "die", "die row", "die row 01", "die rows 1", "die 1", "die row 1 1", "mend", "mend row x", "undo ", "undo 1", "Undo",
                 "redo 1", "redo ", "undone", "tick ", "tick 1", "ticks", "events ", "event", "events 1", "told", "told ", "told 01", "told x",
                 "told -1", "told 1 1", "told  1", "told 1 ", " told 1", "Told 1", "dead", "dead ", "dead 01", "dead x", "dead 1 1", "deads 1",
                 "alive", "alive 00", "alive -1", "alive 1 ", "alive  1", "living 1", "surely 1", "expected 1 1", "copy", "journal", "tried",
                 "seen", "seen_dying", "name", "ok", "none", "?", "book", "watch a 0", "told 1,2", "told +1", "told \u0661", "told 1.0", "tick\r",
                 "  look", "undo\nredo", "look,look", "told 1_0", "dead row 1", "alive row 1", "tick events"]
        for value in wrong + any_values():
            if value == "look":
                continue
            before = state_of(self.watch)
            refused(self, BadLine, value, lambda: self.desk.say(value))
            refused(self, BadLine, value, lambda: self.desk.say(line=value))
            self.assertEqual(state_of(self.watch), before)

    def test_long_talks(self):
        generator = random.Random(290)
        found = {}
        for text in plain_book.some_texts(generator, 40):
            book = Book(text)
            watch = Watch(book, generator.choice(book.names))
            other, desk = watch.copy(), Desk(watch)
            for _ in range(60):
                line = self.some_line(generator, book.board)
                answer = []
                good = outcome(lambda: answer.append(self.answer(other, line)))
                said = []
                self.assertEqual(outcome(lambda: said.append(desk.say(line))), good, line)
                self.assertEqual(said, answer)
                self.assertEqual(state_of(watch), state_of(other))
                what = line.split(" ")[0], good is None
                found[what] = found.get(what, 0) + 1
        for word in "pass look die mend undo redo told dead alive".split():
            self.assertGreater(found[(word, True)], 10, word)

    def some_line(self, generator, board):
        kind, number = generator.choice(board.wires)
        k = generator.choice((0, 1, 1, 2, 3, 20, 21))
        return generator.choice([
            "look", "look", "look", f"pass {generator.randint(0, 3)}", "pass 1", f"die {kind} {number}", f"mend {kind} {number}",
            f"mend {kind} {number}", "undo", "redo", "tick", "events", f"told {k}", f"dead {k}", f"alive {k}",
        ])

    def answer(self, watch, line):
        """What the document says of a line of the table, done with the watch itself."""
        event = event_of(line)
        if event is not None:
            picture = step_of(watch, event)()
            return "/".join(picture.rows) if line == "look" else "ok"
        if line in ("undo", "redo"):
            watch.undo() if line == "undo" else watch.redo()
            return "ok"
        if line in ("tick", "events"):
            return str(watch.tick if line == "tick" else len(watch.events))
        word, k = line.split(" ")
        if word == "told":
            return ",".join(f"{watch.book.names[number]} {begin} {few}" for number, begin, few in watch.told(int(k))) or "none"
        deads = watch.surely(int(k))
        return "?" if deads is None else words_of(deads[word == "alive"].wires)


if __name__ == "__main__":
    unittest.main()
