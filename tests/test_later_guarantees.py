"""The guarantees of section 3, as far as they speak of watching, running texts, test pictures and watches."""

import itertools
import random
import unittest

from tests import brute, brute_watching, plain_book
from tests.test_probes import cases as probe_cases
from tests.test_strips import full_board
from tests.test_watch import outcome, state_of, step_of
from tests.test_watching import cases as watching_cases
from wiresindark.books import Book
from wiresindark.films import Film, running, shown
from wiresindark.journals import read_journal
from wiresindark.pictures import Dead
from wiresindark.probes import probes
from wiresindark.strips import strips_alike
from wiresindark.telling import told
from wiresindark.texts import read_seen, show_seen
from wiresindark.watch import Watch
from wiresindark.watching import choose, clear, mixups, most_dead, sure, wait


def turned(films):
    return tuple(Film(tuple(~picture for picture in film.pictures)) for film in films)


def mix_up_turned(mix_up):
    return mix_up and (mix_up[0], mix_up[1], ~mix_up[2], ~mix_up[3])


class AllDeadWiresTest(unittest.TestCase):
    """(a): what is returned to hold does so for all dead wires; otherwise the returned ones show it."""

    def test_who_is_sure_is_told_one_thing(self):
        generator = random.Random(300)
        found = [0, 0]
        for films, looks, k, parts in watching_cases(301, 250):
            mix_up = sure(films, looks, k, parts)
            found[mix_up is None] += 1
            if mix_up is None:
                number, begin = generator.choice(brute.truths(films))
                wires = generator.sample(films[0].board.wires, min(k, len(films[0].board.wires)))
                seen = shown(films[number] >> begin, looks, brute.dead_from(films[0].board, wires))
                truths = [truth[:2] for truth in told(films, seen, k)]
                self.assertIn((number, begin), truths)
                for truth in truths:
                    self.assertFalse(brute_watching.are_unlike(films, truth, (number, begin), parts))
            else:
                one, other, dead, match = mix_up
                seen = shown(films[one[0]] >> one[1], looks, dead)
                self.assertEqual(seen, shown(films[other[0]] >> other[1], looks, match))
                truths = [truth[:2] for truth in told(films, seen, k)]
                self.assertTrue(one in truths and other in truths)
        self.assertGreater(min(found), 40)

    def test_who_waited_is_told_one_thing(self):
        for films, _, k, parts in watching_cases(302, 120):
            many, mix_up = wait(films, k, parts)
            if many is not None and 1 <= many <= 12:
                self.assertIsNone(sure(films, tuple(range(many)), k, parts))
            if many is not None and 2 <= many <= 13:
                self.assertEqual(sure(films, tuple(range(many - 1)), k, parts), mix_up)
            if many is None:
                self.assertEqual(sure(films, (0,), k, parts) is None, False)
                ticks = range(2 * brute_watching.round_of(films))
                self.assertTrue(brute_watching.shows_alike(films, ticks, k, mix_up))

    def test_clear_films_are_told_apart(self):
        generator = random.Random(303)
        for films, looks, k, _ in watching_cases(304, 150):
            kept = clear(films, looks, k)
            number = generator.choice(kept)
            wires = generator.sample(films[0].board.wires, min(k, len(films[0].board.wires)))
            seen = shown(films[number], looks, brute.dead_from(films[0].board, wires))
            self.assertEqual({truth[0] for truth in told(tuple(films[one] for one in kept), seen, k)}, {kept.index(number)})


class MoreLooksTest(unittest.TestCase):
    """(d): with more looks, and with fewer dead wires, nothing is mixed up that was not."""

    def test_more_looks_and_fewer_wires(self):
        generator = random.Random(305)
        for films, looks, k, parts in watching_cases(306, 200):
            tick = generator.choice([tick for tick in range(12) if tick not in looks])
            more = tuple(sorted(looks + (tick,)))
            if sure(films, looks, k, parts) is None:
                self.assertIsNone(sure(films, more, k, parts))
                self.assertTrue(k == 0 or sure(films, looks, k - 1, parts) is None)
            self.assertLessEqual(set(mixups(films, more, k)), set(mixups(films, looks, k)))
            self.assertLessEqual(set(mixups(films, looks, max(k - 1, 0))), set(mixups(films, looks, k)))
            self.assertGreaterEqual(len(clear(films, more, k)), len(clear(films, looks, k)))
            most, later = [most_dead(films, ticks, parts)[0] for ticks in (looks, more)]
            self.assertTrue(most is None or later is not None and later >= most)

    def test_waiting_with_more_dead_wires(self):
        for films, _, _, parts in watching_cases(307, 80):
            waits = [wait(films, k, parts)[0] for k in range(5)]
            waits = [10 ** 9 if many is None else many for many in waits]
            self.assertEqual(waits, sorted(waits))


class TurnedTest(unittest.TestCase):
    """(e): rows and columns exchanged."""

    def test_mix_ups(self):
        for films, looks, k, parts in watching_cases(308, 200):
            others = turned(films)
            one, other = sure(films, looks, k, parts), sure(others, looks, k, parts)
            self.assertEqual(one and one[:2], other and other[:2])
            self.assertTrue(brute_watching.is_mix_up(others, looks, k, parts, mix_up_turned(one)))
            one, other = wait(films, k, parts), wait(others, k, parts)
            self.assertEqual((one[0], one[1] and one[1][:2]), (other[0], other[1] and other[1][:2]))
            self.assertEqual(most_dead(films, looks, parts)[0], most_dead(others, looks, parts)[0])
            self.assertEqual(mixups(films, looks, k), mixups(others, looks, k))
            self.assertEqual(clear(films, looks, k), clear(others, looks, k))
            offers = tuple((tick, 1 + tick % 3) for tick in looks)
            one, other = choose(films, offers, k, parts), choose(others, offers, k, parts)
            self.assertEqual(one[:-1], other[:-1])
            self.assertEqual([mix_up[:2] for mix_up in one[-1]], [mix_up[:2] for mix_up in other[-1]])

    def test_probes(self):
        for board, offers, k in probe_cases(309, 120):
            one, other = probes(board, offers, k), probes(~board, tuple(~picture for picture in offers), k)
            self.assertEqual(one[0], other[0])
            if one[0] == "probes":
                self.assertEqual(one, other)


class RunningTextsTest(unittest.TestCase):
    """(f): two texts on a full board can look alike for ever, something being lit, just if dead rows do it."""

    def test_against_all_dead_wires_over_all_ticks(self):
        generator = random.Random(310)
        found = [0, 0]
        for _ in range(120):
            board = full_board(generator.randint(1, 3), generator.randint(1, 2))
            columns = brute.subsets(range(board.height))
            many, more = generator.choice(((5, 4), (4, 5), (3, 5), (2, 7), (4, 4), (3, 3), (6, 4)))
            column = generator.choice(columns)
            strip, second = [tuple(column for _ in range(length)) for length in (many, more)]
            rows = generator.choice(columns)
            strip = tuple(tuple(sorted(set(one) ^ (set(rows) & set(generator.choice(columns))))) for one in strip)
            if generator.random() < 0.5:
                second = tuple(tuple(sorted(set(one) ^ (set(rows) & set(generator.choice(columns))))) for one in second)
            k = generator.choice((0, 1, 1, 2))
            good = self.can_look_alike(board, strip, second, k)
            found[good] += 1
            self.assertIs(strips_alike(board, strip, second, k) is not None, good)
        self.assertGreater(min(found), 20)

    def can_look_alike(self, board, strip, second, k):
        one, other = running(board, strip), running(board, second)
        looks = range(len(strip) * len(second))
        for turn in range(len(second)):
            for dead, match in brute.mix_ups(one, other >> turn, looks, k):
                if any(dot not in dead.dots for tick in looks for dot in brute.lit(one, tick)):
                    return True
        return False

    def test_texts_of_a_book(self):
        book = Book("board\n  oooo\n  oooo\n  oooo\nsign i\n  #\n  #\n  #\nsign j\n  #\n  .\n  #\nfilm a\n  run i 3\nfilm b\n  run j 3")
        value = strips_alike(book.board, ((0, 1, 2), (), (), ()), ((0, 2), (), (), ()), 1)
        self.assertEqual(value, ((1,), (), 0))
        one, other = book["a"], book["b"]
        looks = tuple(range(12))
        self.assertEqual(shown(one, looks, Dead(book.board, value[0])), shown(other, looks, Dead(book.board, value[1])))
        self.assertEqual(mixups(book.films, looks, 1), ((0, 1),))
        self.assertEqual(mixups(book.films, looks, 0), ())


class WatchesTest(unittest.TestCase):
    """(g): what was undone, and trials that were not kept, leave nothing behind; texts are read back."""

    def some_events(self, generator, watch, many):
        for _ in range(many):
            wire = generator.choice(watch.book.board.wires)
            events = (("pass", generator.randint(1, 3)), ("pass", 1), ("look",), ("look",), ("die", wire), ("mend", wire))
            outcome(step_of(watch, generator.choice(events)))

    def test_undone_and_tried(self):
        generator = random.Random(311)
        for text in plain_book.some_texts(generator, 80):
            book = Book(text)
            name = generator.choice(book.names)
            watch = Watch(book, name)
            self.some_events(generator, watch, 8)
            before = state_of(watch)
            many = len(watch.events)
            self.some_events(generator, watch, 5)
            watch.tried(lambda same: self.some_events(generator, same, 5))
            while len(watch.events) > many:
                watch.undo()
            self.assertEqual(state_of(watch), before)
            # As if nothing but these events had been.
            fresh = Watch(book, name)
            for event in watch.events:
                step_of(fresh, event)()
            self.assertEqual((state_of(fresh), fresh, fresh.journal()), (before, watch, watch.journal()))
            while watch.events:
                watch.undo()
            self.assertEqual((state_of(watch), watch), (state_of(Watch(book, name)), Watch(book, name)))

    def test_texts_are_read_back(self):
        generator = random.Random(312)
        read = 0
        for text in plain_book.some_texts(generator, 80):
            book = Book(text)
            watch = Watch(book, generator.choice(book.names))
            self.some_events(generator, watch, 20)
            again = read_journal(watch.journal())
            self.assertEqual((again, state_of(again), again.book.text), (watch, state_of(watch), text))
            for seen in (watch.seen, watch.seen_dying):
                if seen:
                    read += 1
                    self.assertEqual(read_seen(book.board, show_seen(seen)), seen)
                    self.assertEqual(read_seen(again.book.board, show_seen(seen)), seen)
        self.assertGreater(read, 50)


class TogetherTest(unittest.TestCase):
    def test_what_was_returned_is_taken(self):
        """Ticks, looks and seen of a watch are taken by the other functions, and their mix-ups are shown by shown."""
        generator = random.Random(313)
        for text in plain_book.some_texts(generator, 30):
            book = Book(text)
            watch = Watch(book, book.names[0])
            for _ in range(3):
                watch.look()
                watch.pass_by(generator.randint(1, 4))
            looks = tuple(tick for tick, _ in watch.seen)
            for k, parts in itertools.product((0, 1), (None, tuple((name,) * len(book[name]) for name in book.names))):
                mix_up = sure(book.films, looks, k, parts)
                if mix_up is None:
                    self.assertEqual(watch.told(k), told(book.films, watch.seen, k))
                    for truth in watch.told(k):
                        self.assertFalse(brute_watching.are_unlike(book.films, truth[:2], (0, 0), parts))
                else:
                    one, other, dead, match = mix_up
                    here, there = [book.films[number] >> begin for number, begin in (one, other)]
                    self.assertEqual(shown(here, looks, dead), shown(there, looks, match))


if __name__ == "__main__":
    unittest.main()
