"""Watches: long days, event by event, against a plain record; trials, copies, and what is refused."""

import random
import unittest

from tests import brute, plain_book
from tests.plain_watch import PlainWatch
from tests.values import any_values, refused
from wiresindark import errors
from wiresindark.books import Book
from wiresindark.errors import (
    BadNumber, BadTick, BadWire, NoChange, NoFilm, NothingSeen, NothingToRedo, NothingToUndo, SeenAlready, TooLong, WireError,
)
from wiresindark.journals import read_journal
from wiresindark.pictures import Dead, Picture
from wiresindark.telling import expected, surely, told
from wiresindark.watch import Watch

TEXT = "board\n  oooo\n  ooo.\n  oooo\nsign i\n  #\n  #\n  #\nsign l\n  #.\n  #.\n  ##\n"
TEXT += "film a\n  still i,l 2\n  dark 1\n  still l 1\nfilm b\n  run l 1\nfilm c\n  run i 2\n  still l,i 1"
BOOK = Book(TEXT)
ROW, COLUMN = ("row", 1), ("column", 0)


class Stop(BaseException):
    """An error that is no Exception."""


def outcome(call):
    """(error, value) if call raises an error of the package, otherwise None."""
    try:
        call()
    except WireError as error:
        return type(error), error.value
    return None


def step_of(watch, event):
    """A call that lets the event happen."""
    if event[0] == "look":
        return watch.look
    method = {"pass": watch.pass_by, "die": watch.die, "mend": watch.mend}[event[0]]
    return lambda: method(event[1])


def state_of(watch):
    return watch.book, watch.name, watch.begin, watch.tick, watch.dead, watch.seen, watch.seen_dying, watch.events


def undone_events(watch):
    """What can be redone, by redoing it with a copy."""
    other, found = watch.copy(), []
    while outcome(other.redo) is None:
        found.append(other.events[-1])
    return found


class Comparing(unittest.TestCase):
    def compare(self, watch, plain):
        tick, dead, seen, seen_dying = plain.state()
        self.assertEqual((watch.tick, type(watch.tick)), (tick, int))
        self.assertEqual(watch.dead, brute.dead_from(plain.book.board, dead))
        for looks, good in ((watch.seen, seen), (watch.seen_dying, seen_dying)):
            self.assertIs(type(looks), tuple)
            self.assertEqual(looks, tuple((when, Picture(plain.book.board, dots)) for when, dots in good))
        self.assertEqual((watch.events, type(watch.events)), (tuple(plain.events), tuple))
        self.assertEqual((watch.book, watch.name, watch.begin), (plain.book, plain.name, plain.begin))

    def compare_all(self, watch, plain):
        """Also what can be undone and redone, and what the journal says."""
        self.compare(watch, plain)
        self.assertEqual(undone_events(watch), plain.undone[::-1])
        self.assertEqual(watch.journal(), plain.journal())
        other, record = watch.copy(), plain.copy()
        while record.events:
            self.assertEqual(outcome(other.undo), record.undo())
            self.compare(other, record)
        self.assertEqual(outcome(other.undo), (NothingToUndo, None))
        while record.undone:
            self.assertEqual(outcome(other.redo), record.redo())
            self.compare(other, record)
        self.assertEqual(outcome(other.redo), (NothingToRedo, None))
        self.compare(watch, plain)


class LongDaysTest(Comparing):
    def some_event(self, generator, board, dead):
        way = generator.randrange(10)
        if way < 3:
            return ("pass", generator.choice((1, 1, 1, 2, 3, 5, 999999999, 0, -1, True)))
        if way < 7:
            return ("look",)
        if dead and generator.random() < 0.4:
            return ("mend", generator.choice(sorted(dead)))
        wire = generator.choice(board.wires + (("row", board.height), ("column", -1), ("row", True)))
        return (generator.choice(("die", "mend", "mend")), wire)

    def step(self, generator, watch, plain, depth=0):
        """One thing is done with both; what is returned is a name for it."""
        way = generator.randrange(20)
        if way < 11:
            event = self.some_event(generator, plain.book.board, plain.state()[1])
            good = plain.happen(event)
            self.assertEqual(outcome(step_of(watch, event)), good)
            return event[0] if good is None else good[0].__name__
        if way < 15:
            good = plain.undo()
            self.assertEqual(outcome(watch.undo), good)
            return "undo" if good is None else good[0].__name__
        if way < 18:
            good = plain.redo()
            self.assertEqual(outcome(watch.redo), good)
            return "redo" if good is None else good[0].__name__
        if depth < 3:
            self.trial(generator, watch, plain, depth + 1)
        return "trial"

    def trial(self, generator, watch, plain, depth):
        inside = plain.copy()
        keep = generator.choice((True, True, False, None, 1, "True", (True,)))
        answer = object()
        fails = generator.random() < 0.3

        def look(same):
            self.assertIs(same, watch)
            for _ in range(generator.randrange(6)):
                self.step(generator, watch, inside, depth)
            if fails:
                raise Stop(answer)
            return answer

        if fails:
            with self.assertRaises(Stop) as caught:
                watch.tried(look, keep=keep)
            self.assertIs(caught.exception.args[0], answer)
        else:
            self.assertIs(watch.tried(look, keep=keep), answer)
            if keep is True:
                plain.events, plain.undone = inside.events, inside.undone

    def test_long_days(self):
        generator = random.Random(260)
        found = {}
        for text in plain_book.some_texts(generator, 40):
            book = Book(text)
            name = generator.choice(book.names)
            begin = generator.randrange(len(book[name]))
            watch, plain = Watch(book, name, begin), PlainWatch(book, name, begin)
            for place in range(60):
                what = self.step(generator, watch, plain)
                found[what] = found.get(what, 0) + 1
                if place % 12 == 11:
                    self.compare_all(watch, plain)
                    left = watch.copy()
                    self.step(generator, left, plain.copy())
                    watch = watch.copy() if generator.random() < 0.5 else watch
                self.compare(watch, plain)
            again = read_journal(watch.journal())
            self.assertEqual(again, watch)
            plain.undone = []
            self.compare_all(again, plain)
        for what in "pass die mend look undo redo trial BadTick BadWire NoChange SeenAlready NothingToUndo NothingToRedo".split():
            self.assertGreater(found[what], 20, what)

    def test_what_is_told(self):
        """told, surely and expected are those of section 8 for the films of the book and what was seen."""
        generator = random.Random(261)
        found = [0, 0, 0]
        for text in plain_book.some_texts(generator, 60):
            book = Book(text)
            name = generator.choice(book.names)
            begin = generator.randrange(len(book[name]))
            watch = Watch(book, name, begin)
            for _ in range(25):
                outcome(step_of(watch, self.some_event(generator, book.board, watch.dead.wires)))
                if watch.tick > 10 ** 9:
                    watch.undo()
                k = generator.choice((0, 1, 2, 3, 20))
                found[bool(watch.seen) + (watch.seen != watch.seen_dying)] += self.check_told(watch, k, generator)
        self.assertGreater(min(found), 40)

    def check_told(self, watch, k, generator):
        for dying in (True, False, generator.choice((1, "True", None, (True,)))):
            seen = watch.seen_dying if dying is True else watch.seen
            if not seen:
                for call in (watch.told, watch.surely):
                    self.assertEqual(outcome(lambda: call(k, dying=dying)), (NothingSeen, None))
                continue
            truths = told(watch.book.films, seen, k, dying=dying is True)
            self.assertEqual(watch.told(k, dying=dying), truths)
            self.assertEqual(watch.surely(k, dying=dying), surely(watch.book.films, seen, k, dying=dying is True))
            if k >= len(watch.dead):
                number = watch.book.names.index(watch.name)
                self.assertIn((number, watch.begin), [truth[:2] for truth in truths])
        if not watch.seen:
            self.assertEqual(outcome(lambda: watch.expected(k, 3)), (NothingSeen, None))
        else:
            tick = generator.choice((0, 1, 5, watch.tick))
            self.assertEqual(watch.expected(k, tick), expected(watch.book.films, watch.seen, k, tick))
            self.assertEqual(watch.told(k), watch.told(k, dying=False))
            self.assertEqual(watch.surely(k), watch.surely(k, dying=False))
        return 1


class WatchTest(Comparing):
    def setUp(self):
        self.watch = Watch(BOOK, "a")

    def test_at_first(self):
        for begin in range(4):
            watch = Watch(BOOK, "a", begin)
            self.assertEqual(state_of(watch), (BOOK, "a", begin, 0, Dead(BOOK.board), (), (), ()))
            self.assertIs(watch.book, BOOK)
            self.compare_all(watch, PlainWatch(BOOK, "a", begin))
        self.assertEqual(Watch(BOOK, "b").begin, 0)
        self.assertEqual(Watch(begin=2, name="a", book=BOOK), Watch(BOOK, "a", 2))

    def test_begin(self):
        for name, film in zip(BOOK.names, BOOK.films):
            for begin in range(len(film)):
                watch = Watch(BOOK, name, begin)
                for tick in range(2 * len(film)):
                    self.assertEqual(watch.look(), film[begin + tick])
                    watch.pass_by()
                    if tick % 5 == 4:
                        watch.die(ROW)
                        watch.mend(ROW)
            for begin in (len(film), len(film) + 1, -1, 999999999):
                refused(self, BadTick, begin, lambda: Watch(BOOK, name, begin))

    def test_refused_watches(self):
        for value in any_values() + ["d", "A", "i", "a ", ["a"], ("a",), BOOK["a"], 0]:
            if value not in ("a", "b") or not isinstance(value, str):
                refused(self, NoFilm, value, lambda: Watch(BOOK, value))
                refused(self, NoFilm, value, lambda: Watch(BOOK, value, 99))
                refused(self, NoFilm, value, lambda: Watch(BOOK, value, None))
            if type(value) is not int or not 0 <= value < 4:
                refused(self, BadTick, value, lambda: Watch(BOOK, "a", value))
                refused(self, BadTick, value, lambda: Watch(BOOK, "a", begin=value))
                refused(self, NoFilm, "d", lambda: Watch(BOOK, "d", value))

    def unchanged(self, call, error, value):
        """call raises this error, and nothing changes, also not what can be redone."""
        before, undone = state_of(self.watch), undone_events(self.watch)
        refused(self, error, value, call)
        self.assertEqual((state_of(self.watch), undone_events(self.watch)), (before, undone))

    def something_undone(self):
        self.watch.die(COLUMN)
        self.watch.look()
        self.watch.pass_by(3)
        self.watch.undo()
        self.watch.undo()
        self.assertEqual(undone_events(self.watch), [("look",), ("pass", 3)])

    def test_pass_by(self):
        self.assertIsNone(self.watch.pass_by())
        self.assertIsNone(self.watch.pass_by(5))
        self.assertIsNone(self.watch.pass_by(many=999999999))
        self.assertEqual(self.watch.tick, 1000000005)
        self.assertEqual(self.watch.events, (("pass", 1), ("pass", 5), ("pass", 999999999)))
        self.assertEqual(self.watch.look(), BOOK["a"][1000000005])

    def test_pass_by_refused(self):
        self.something_undone()
        for value in any_values() + [0, -1, -999999999]:
            if type(value) is not int or value < 1:
                self.unchanged(lambda: self.watch.pass_by(value), BadTick, value)
                self.unchanged(lambda: self.watch.pass_by(many=value), BadTick, value)

    def test_in_place(self):
        watch = same = self.watch
        watch += 2
        watch += 1
        self.assertIs(watch, same)
        self.assertEqual((watch.tick, watch.events), (3, (("pass", 2), ("pass", 1))))
        self.something_undone()
        for value in any_values():
            if type(value) is not int or value < 1:
                def add():
                    other = self.watch
                    other += value
                self.unchanged(add, BadTick, value)
        for value in (True, 0):
            with self.assertRaises(BadTick):
                watch += value

    def test_wires(self):
        for wire in BOOK.board.wires:
            self.assertIsNone(self.watch.die(wire))
            self.assertEqual(self.watch.dead, brute.dead_from(BOOK.board, (wire,)))
            self.assertIsNone(self.watch.mend(wire=wire))
            self.assertEqual(self.watch.dead, Dead(BOOK.board))
        for wire in BOOK.board.wires[::-1]:
            self.watch.die(wire=wire)
        self.assertEqual(self.watch.dead.wires, BOOK.board.wires)
        self.assertEqual(self.watch.events[-1], ("die", BOOK.board.wires[0]))

    def test_wires_refused(self):
        self.something_undone()
        wrong = [("row", 3), ("column", 4), ("row", -1), ("rows", 0), ("row", True), ("column", False), ["row", 0], ("row", 0, 0),
                 ("row",), (0, "row"), "row 0", ("row", "0"), ("row", (0,)), (("row", 0),), Dead(BOOK.board, (0,)), (["row"], 0)]
        for value in any_values() + wrong:
            if value in BOOK.board.wires and type(value) is tuple and type(value[1]) is int:
                continue
            self.unchanged(lambda: self.watch.die(value), BadWire, value)
            self.unchanged(lambda: self.watch.mend(value), BadWire, value)
            self.unchanged(lambda: self.watch.die(wire=value), BadWire, value)
        for wire in BOOK.board.wires:
            call = self.watch.die if wire == COLUMN else self.watch.mend
            self.unchanged(lambda: call(wire), NoChange, wire)

    def test_a_wire_that_died(self):
        """What was seen before is no longer in seen, but in seen_dying."""
        before = self.watch.look()
        self.watch.pass_by()
        self.watch.die(COLUMN)
        self.assertEqual((self.watch.seen, self.watch.seen_dying), ((), ((0, before),)))
        behind = self.watch.look()
        self.assertEqual(behind, BOOK["a"][1] - Dead(BOOK.board, (), (0,)))
        self.assertEqual((self.watch.seen, self.watch.seen_dying), (((1, behind),), ((0, before), (1, behind))))
        self.watch.pass_by()
        self.watch.mend(COLUMN)
        self.assertEqual((self.watch.seen, self.watch.seen_dying), ((), ()))
        self.watch.undo()
        self.assertEqual((self.watch.seen, self.watch.seen_dying), (((1, behind),), ((0, before), (1, behind))))

    def test_a_look_at_the_same_tick(self):
        picture = self.watch.look()
        self.assertIs(type(picture), Picture)
        self.unchanged(self.watch.look, SeenAlready, 0)
        self.watch.die(COLUMN)
        # A wire that died does not let one look again.
        self.unchanged(self.watch.look, SeenAlready, 0)
        self.watch.mend(COLUMN)
        self.assertEqual(self.watch.look(), picture)
        self.unchanged(self.watch.look, SeenAlready, 0)
        self.watch.pass_by(7)
        self.watch.look()
        self.unchanged(self.watch.look, SeenAlready, 7)
        self.watch.undo()
        self.watch.look()
        self.assertEqual([tick for tick, _ in self.watch.seen], [0, 7])

    def test_twelve_looks(self):
        for place in range(12):
            self.watch.look()
            if place == 5:
                self.watch.die(ROW)
            if place < 11:
                self.watch.pass_by()
        self.assertEqual((len(self.watch.seen), len(self.watch.seen_dying)), (6, 12))
        # Both errors apply: the one named first is raised.
        self.unchanged(self.watch.look, SeenAlready, 11)
        self.watch.pass_by()
        with self.assertRaises(TooLong) as caught:
            self.watch.look()
        self.assertEqual(caught.exception.value, 13)
        self.unchanged(self.watch.look, TooLong, caught.exception.value)
        self.assertEqual(len(self.watch.told(1, dying=True)) > 0, True)
        self.watch.die(COLUMN)
        self.assertEqual(outcome(self.watch.look), (TooLong, 13))
        self.watch.undo()
        self.watch.mend(ROW)
        self.watch.look()
        self.assertEqual(len(self.watch.seen_dying), 1)

    def test_undo_and_redo(self):
        self.assertEqual(outcome(self.watch.undo), (NothingToUndo, None))
        self.assertEqual(outcome(self.watch.redo), (NothingToRedo, None))
        states = [state_of(self.watch)]
        for event in (("pass", 2), ("look",), ("die", ROW), ("pass", 1), ("look",), ("mend", ROW), ("look",)):
            step_of(self.watch, event)()
            states.append(state_of(self.watch))
        for place in range(6, -1, -1):
            self.assertIsNone(self.watch.undo())
            self.assertEqual(state_of(self.watch), states[place])
        self.unchanged(self.watch.undo, NothingToUndo, None)
        for place in range(1, 8):
            self.assertIsNone(self.watch.redo())
            self.assertEqual(state_of(self.watch), states[place])
        self.unchanged(self.watch.redo, NothingToRedo, None)
        for _ in range(3):
            self.watch.undo()
        self.watch.redo()
        self.assertEqual(state_of(self.watch), states[5])
        self.assertEqual(undone_events(self.watch), [("mend", ROW), ("look",)])

    def test_an_event_behind_undo(self):
        for event in (("pass", 1), ("look",), ("die", ROW), ("mend", COLUMN)):
            watch = Watch(BOOK, "a")
            watch.die(COLUMN)
            watch.pass_by(4)
            watch.pass_by(4)
            watch.undo()
            watch.undo()
            step_of(watch, event)()
            self.assertEqual(outcome(watch.redo), (NothingToRedo, None))
            watch.undo()
            self.assertEqual(undone_events(watch), [event])

    def test_asking_changes_nothing(self):
        self.watch.look()
        self.watch.pass_by()
        self.something_undone()
        before, undone = state_of(self.watch), undone_events(self.watch)
        for call in (lambda: self.watch.told(2, dying=True), lambda: self.watch.surely(2, dying=True), self.watch.journal,
                     self.watch.copy, lambda: self.watch == self.watch, lambda: self.watch.told(1)):
            outcome(call)
        self.assertEqual((state_of(self.watch), undone_events(self.watch)), (before, undone))

    def test_asking_refused(self):
        numbers = [21, 22, -1, True, False, None, "1", (1,), [1], 999999999]
        for k in numbers + any_values():
            if type(k) is int and 0 <= k <= 20:
                continue
            fresh = Watch(BOOK, "a")
            # Nothing was seen: that comes first.
            self.assertEqual(outcome(lambda: fresh.told(k)), (NothingSeen, None))
            self.assertEqual(outcome(lambda: fresh.surely(k)), (NothingSeen, None))
            self.assertEqual(outcome(lambda: fresh.expected(k, -1)), (NothingSeen, None))
            fresh.look()
            for call in (lambda: fresh.told(k), lambda: fresh.surely(k), lambda: fresh.expected(k, 0),
                         lambda: fresh.told(k, dying=True), lambda: fresh.surely(k, dying=True), lambda: fresh.expected(k, None)):
                refused(self, BadNumber, k, call)
        self.watch.look()
        for tick in any_values() + [-1]:
            if type(tick) is not int or tick < 0:
                refused(self, BadTick, tick, lambda: self.watch.expected(1, tick))
                refused(self, BadTick, tick, lambda: self.watch.expected(tick=tick, k=1))
                k = 21
                refused(self, BadNumber, k, lambda: self.watch.expected(k, tick))
        for k in (0, 20):
            self.assertEqual(self.watch.told(k=k), told(BOOK.films, self.watch.seen, k))
            self.assertEqual(self.watch.surely(k=k), surely(BOOK.films, self.watch.seen, k))
            self.assertEqual(self.watch.expected(k=k, tick=7), expected(BOOK.films, self.watch.seen, k, 7))

    def test_nothing_seen_since_a_wire_died(self):
        self.watch.look()
        self.watch.die(ROW)
        for call in (lambda: self.watch.told(1), lambda: self.watch.surely(1), lambda: self.watch.expected(1, 0),
                     lambda: self.watch.told(1, dying=1), lambda: self.watch.surely(1, dying="True")):
            self.assertEqual(outcome(call), (NothingSeen, None))
        self.assertEqual(self.watch.told(0, dying=True), told(BOOK.films, self.watch.seen_dying, 0))
        self.watch.mend(ROW)
        for call in (lambda: self.watch.told(1, dying=True), lambda: self.watch.surely(1, dying=True)):
            self.assertEqual(outcome(call), (NothingSeen, None))

    def test_only_true_itself_means_dying(self):
        self.watch.look()
        self.watch.die(("column", 2))
        self.watch.pass_by()
        self.watch.look()
        dying = self.watch.told(1, dying=True), self.watch.surely(1, dying=True)
        now = self.watch.told(1), self.watch.surely(1)
        self.assertNotEqual(dying, now)
        for value in any_values():
            good = dying if value is True else now
            self.assertEqual((self.watch.told(1, dying=value), self.watch.surely(1, dying=value)), good)
        self.assertRaises(TypeError, self.watch.told, 1, True)
        self.assertRaises(TypeError, self.watch.surely, 1, True)

    def test_alike_films_are_all_told(self):
        book = Book("board\n  ooo\nsign i\n  #\nfilm a\n  run i 2\nfilm b\n  run i 2\nfilm c\n  still i 1\n  dark 2")
        watch = Watch(book, "b", 1)
        watch.look()
        watch.pass_by()
        watch.look()
        self.assertEqual(watch.told(0), ((0, 1, 0), (1, 1, 0)))
        self.assertEqual(book["a"], book["b"])
        # The begins are those at tick 0, not those at the first look.
        later = Watch(book, "a")
        later.pass_by(2)
        later.look()
        self.assertEqual(later.told(0), ((0, 0, 0), (1, 0, 0)))

    def test_equal(self):
        def made(book=BOOK, name="a", begin=0, wires=(ROW,)):
            watch = Watch(book, name, begin)
            for wire in wires:
                watch.die(wire)
            return watch
        self.assertTrue(made() == made() and not made() != made())
        self.assertTrue(made() == made(Book(TEXT)))
        undone = made(wires=(ROW, COLUMN))
        undone.undo()
        self.assertEqual(undone, made())
        others = [made(Book(TEXT + "\nfilm d\n  dark 1")), made(name="c"), made(begin=1), made(wires=()), made(wires=(COLUMN,)),
                  made(wires=(ROW, COLUMN))]
        for other in others + any_values() + [made().events, made().journal(), BOOK]:
            self.assertFalse(made() == other)
            self.assertTrue(made() != other)
        two, one = made(wires=()), made(wires=())
        two.pass_by(2)
        one.pass_by()
        one.pass_by()
        self.assertNotEqual(one, two)
        self.assertEqual(one.tick, two.tick)
        mended = made()
        mended.mend(ROW)
        self.assertNotEqual(mended, made(wires=()))


class CopyTest(Comparing):
    def test_copies_go_their_own_ways(self):
        watch = Watch(BOOK, "a", 1)
        for event in (("look",), ("die", ROW), ("pass", 1), ("look",), ("pass", 2)):
            step_of(watch, event)()
        watch.undo()
        watch.undo()
        before, undone = state_of(watch), undone_events(watch)
        other = watch.copy()
        self.assertIsNot(other, watch)
        self.assertIs(type(other), Watch)
        self.assertEqual(other, watch)
        self.assertEqual((state_of(other), undone_events(other)), (before, undone))
        other.pass_by(5)
        self.assertEqual((state_of(watch), undone_events(watch)), (before, undone))
        self.assertEqual(outcome(other.redo), (NothingToRedo, None))
        watch.redo()
        self.assertEqual(other.events[-1], ("pass", 5))
        third = watch.copy()
        third.undo()
        third.undo()
        self.assertEqual(undone_events(third), [("pass", 1), ("look",), ("pass", 2)])
        self.assertEqual(undone_events(watch), [("pass", 2)])
        third.redo()
        third.redo()
        third.redo()
        self.assertEqual(undone_events(watch), [("pass", 2)])
        watch.undo()
        self.assertEqual(outcome(third.redo), (NothingToRedo, None))


class TriedTest(Comparing):
    def setUp(self):
        self.watch = Watch(BOOK, "b", 1)
        for event in (("look",), ("die", ROW), ("pass", 1), ("look",), ("pass", 2), ("look",)):
            step_of(self.watch, event)()
        self.watch.undo()
        self.watch.undo()
        self.before, self.undone = state_of(self.watch), undone_events(self.watch)

    def same(self):
        self.assertEqual((state_of(self.watch), undone_events(self.watch)), (self.before, self.undone))

    def much(self, watch):
        """All that changes a watch, at least once."""
        watch.undo()
        watch.undo()
        watch.redo()
        watch.mend(ROW)
        watch.look()
        watch.pass_by()
        watch.die(COLUMN)
        watch.look()
        return "much"

    def test_nothing_is_left_behind(self):
        self.assertEqual(self.watch.tried(self.much), "much")
        self.same()
        self.assertEqual(self.watch.tried(look=self.much, keep=False), "much")
        self.same()
        for value in any_values() + [1, "True", (True,), [True]]:
            if value is not True:
                self.watch.tried(self.much, keep=value)
                self.same()
        self.assertRaises(TypeError, self.watch.tried, self.much, True)
        self.same()

    def test_kept(self):
        good = self.watch.copy()
        self.much(good)
        self.assertEqual(self.watch.tried(self.much, keep=True), "much")
        self.assertEqual((state_of(self.watch), undone_events(self.watch)), (state_of(good), undone_events(good)))
        while good.events:
            good.undo()
            self.watch.undo()
            self.assertEqual(state_of(self.watch), state_of(good))
        self.assertEqual(undone_events(self.watch), undone_events(good))

    def test_kept_undoing(self):
        self.watch.tried(lambda watch: watch.undo(), keep=True)
        self.assertEqual(undone_events(self.watch), [self.before[-1][-1]] + self.undone)

    def test_what_look_returns(self):
        for value in any_values():
            self.assertIs(self.watch.tried(lambda watch: value), value)
            self.assertIs(self.watch.tried(lambda watch: value, keep=True), value)
            self.same()
        self.assertIs(self.watch.tried(lambda watch: watch), self.watch)
        self.assertIsNone(self.watch.tried(lambda watch: None))

    def test_errors(self):
        def failing(error):
            def look(watch):
                self.much(watch)
                raise error
            return look
        for error in (Stop(), KeyError(0), WireError(0), ValueError(), KeyboardInterrupt(), StopIteration(), errors.BadTick(1)):
            for keep in (True, False, 1):
                with self.assertRaises(type(error)) as caught:
                    self.watch.tried(failing(error), keep=keep)
                self.assertIs(caught.exception, error)
                self.same()
        # An error of the watch itself.
        def twice(watch):
            watch.pass_by()
            watch.look()
            watch.look()
        with self.assertRaises(SeenAlready):
            self.watch.tried(twice, keep=True)
        self.same()

    def test_an_error_that_look_caught(self):
        def look(watch):
            watch.pass_by(9)
            return outcome(lambda: watch.pass_by(0))
        self.assertEqual(self.watch.tried(look, keep=True), (BadTick, 0))
        self.assertEqual(self.watch.events[-1], ("pass", 9))

    def test_trials_in_one_another(self):
        def kept(watch):
            watch.pass_by(7)
            return "kept"

        def dropped(watch):
            watch.tried(kept, keep=True)
            self.assertEqual(watch.events[-1], ("pass", 7))
            watch.tried(self.much)
            self.assertEqual(watch.events[-1], ("pass", 7))
            return "dropped"

        self.assertEqual(self.watch.tried(dropped), "dropped")
        self.same()
        self.watch.tried(dropped, keep=True)
        self.assertEqual(self.watch.events, self.before[-1] + (("pass", 7),))
        self.assertEqual(undone_events(self.watch), [])

    def test_an_error_inside_a_trial_that_is_kept(self):
        def inner(watch):
            watch.pass_by(3)
            raise Stop

        def outer(watch):
            watch.pass_by(2)
            with self.assertRaises(Stop):
                watch.tried(inner, keep=True)
            return watch.tick

        self.assertEqual(self.watch.tried(outer, keep=True), self.before[3] + 2)
        self.assertEqual(self.watch.events, self.before[-1] + (("pass", 2),))

    def test_other_watches_are_left_as_they_are(self):
        other, made = Watch(BOOK, "a"), []

        def look(watch):
            other.pass_by(4)
            watch.pass_by(5)
            made.append(watch.copy())

        self.watch.tried(look)
        self.same()
        self.assertEqual(other.events, (("pass", 4),))
        self.assertEqual(made[0].events, self.before[-1] + (("pass", 5),))

    def test_the_watch_is_tried_by_itself(self):
        self.assertIs(self.watch.tried(lambda watch: watch.tried(lambda same: same is watch)), True)
        self.same()


if __name__ == "__main__":
    unittest.main()
