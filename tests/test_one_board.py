"""Objects of equal boards, each made anew, count as objects of one board; and only a Watch changes."""

import random
import unittest

from tests import brute, plain_book
from tests.cases import cases
from tests.test_mixing import cases as mixing_cases
from tests.test_telling import cases as telling_cases
from tests.test_watch import outcome, step_of
from wiresindark.boards import Board
from wiresindark.books import Book
from wiresindark.desk import Desk
from wiresindark.explaining import Causes, explained, shows_explained, stair
from wiresindark.films import Film, running, shown
from wiresindark.mixing import mixed, shows_mixed
from wiresindark.pictures import Dead, Picture
from wiresindark.probes import probes
from wiresindark.strips import strips_alike
from wiresindark.telling import expected, least_dead, surely, told
from wiresindark.texts import read_seen, show_seen
from wiresindark.watch import Watch
from wiresindark.watching import choose, clear, mixups, most_dead, sure, wait


def anew(thing):
    """The same with boards made anew, each picture with one of its own."""
    if isinstance(thing, Board):
        return Board(tuple(list(thing.rows)))
    if isinstance(thing, Picture):
        return Picture(anew(thing.board), thing.dots)
    if isinstance(thing, Dead):
        return Dead(anew(thing.board), thing.rows, thing.columns)
    if isinstance(thing, Film):
        return Film(anew(thing.pictures))
    return tuple(map(anew, thing)) if isinstance(thing, tuple) else thing


class OneBoardTest(unittest.TestCase):
    def same(self, call, *given, **named):
        """call tells the same of things of one board and of things of boards made anew."""
        self.assertEqual(call(*anew(given), **named), call(*given, **named))

    def test_pictures_and_deads(self):
        generator = random.Random(320)
        for _ in range(40):
            board = brute.any_board(generator, 3, 2, 0.3)
            one, other = [brute.any_picture(generator, board, 0.5) for _ in range(2)]
            dead, match = [brute.dead_from(board, brute.any_wires(generator, board, 0.4)) for _ in range(2)]
            for left, right in ((one, other), (dead, match)):
                for call in (lambda x, y: x | y, lambda x, y: x & y, lambda x, y: x - y, lambda x, y: x ^ y,
                             lambda x, y: x.is_within(y), lambda x, y: x == y):
                    self.assertEqual(call(left, anew(right)), call(left, right))
                    self.assertEqual(call(anew(left), right), call(left, right))
            self.assertEqual((one - anew(dead), dead.over(anew(match)), dead.under(anew(match))),
                             (one - dead, dead.over(match), dead.under(match)))
            self.assertEqual((~anew(board), ~anew(one), ~anew(dead)), (~board, ~one, ~dead))

    def test_films(self):
        for one, other, looks, _ in mixing_cases(321, 40):
            if len(one) + len(other) < 13:
                self.assertEqual(one + anew(other), one + other)
            self.assertIs(one.shows(anew(other)), one.shows(other))
            self.assertIs(anew(one).shows(one), True)
            self.same(shown, one, looks, Dead(one.board, (0,)))
            self.same(running, one.board, ((0,), ()))

    def test_explaining(self):
        for film, seen, alive, dying in cases(322, 120):
            self.same(explained, film, seen, alive=alive, dying=dying)
            self.same(stair, film, seen)
            result = explained(film, seen, alive=alive, dying=dying)
            for given in ((anew(film), seen, result), (film, anew(seen), result), (film, seen, anew(result)), anew((film, seen, result))):
                self.assertIs(shows_explained(*given, alive=alive, dying=dying), True)
            if result[0] != "explained":
                continue
            causes = Causes(film, seen, alive=alive, dying=dying)
            for other in (Causes(anew(film), seen, alive=alive, dying=dying), Causes(film, anew(seen), alive=alive, dying=dying)):
                self.assertEqual([other[number] for number in range(len(other))], [causes[number] for number in range(len(causes))])
                self.assertEqual((other.first, other.last, other.always, other.never),
                                 (causes.first, causes.last, causes.always, causes.never))
                self.assertIs(causes[0] in other, True)
                self.assertIs(anew(other.last) in causes, True)

    def test_telling(self):
        for films, seen, k, dying in telling_cases(323, 120):
            self.same(told, films, seen, k, dying=dying)
            self.same(least_dead, films, seen, dying=dying)
            self.same(surely, films, seen, k, dying=dying)
            self.same(expected, films, seen, k, 3)
            self.assertEqual(told(anew(films), seen, k), told(films, anew(seen), k))

    def test_mixing_and_watching(self):
        for one, other, looks, k in mixing_cases(324, 80):
            self.same(mixed, one, other, looks, k)
            result = mixed(one, anew(other), looks, k)
            self.assertIs(shows_mixed(anew(one), other, looks, k, anew(result)), True)
            films = (one, anew(other))
            self.same(sure, films, looks, k)
            self.same(wait, films, k)
            self.same(most_dead, films, looks)
            self.same(choose, films, ((looks[0], 2),), k)
            self.same(mixups, films, looks, k)
            self.same(clear, films, looks, k)
            self.same(probes, one.board, one.pictures[:6], min(k, 3))
            if one.board.is_full:
                self.same(strips_alike, one.board, ((0,),), ((), (0,)), k)

    def test_texts_and_watches(self):
        generator = random.Random(325)
        for text in plain_book.some_texts(generator, 20):
            book, other = Book(text), Book(text)
            self.assertEqual((book, book.board, book.films), (other, other.board, other.films))
            one, two = Watch(book, book.names[0]), Watch(other, book.names[0])
            for event in (("look",), ("pass", 2), ("look",)):
                step_of(one, event)()
                step_of(two, event)()
            self.assertEqual((one, one.seen, one.told(2), one.dead), (two, two.seen, two.told(2), two.dead))
            self.assertEqual(show_seen(anew(one.seen)), show_seen(one.seen))
            self.assertEqual(read_seen(anew(book.board), show_seen(one.seen)), one.seen)
            self.assertEqual(told(book.films, two.seen, 2), one.told(2))
            self.assertEqual(told(anew(book.films), one.seen, 2), one.told(2))


class OnlyWatchesChangeTest(unittest.TestCase):
    def test_what_a_watch_is_made_from(self):
        generator = random.Random(326)
        for text in plain_book.some_texts(generator, 20):
            book = Book(text)
            things = [book, book.board, *book.films, *[picture for film in book.films for picture in film.pictures]]
            before = [dict(vars(thing)) for thing in things]
            watch = Watch(book, book.names[-1])
            desk = Desk(watch)
            kept = []
            for _ in range(15):
                wire = generator.choice(book.board.wires)
                event = generator.choice((("pass", 2), ("look",), ("look",), ("die", wire), ("mend", wire)))
                outcome(step_of(watch, event))
                outcome(lambda: desk.say(generator.choice(("undo", "redo", "told 1", "dead 2", "look"))))
                looks = (watch.dead, watch.seen, watch.seen_dying, watch.events)
                kept.append((looks, [dict(vars(watch.dead)), list(watch.seen), list(watch.seen_dying), list(watch.events)]))
            self.assertEqual([vars(thing) for thing in things], before)
            self.assertIs(desk.watch, watch)
            # What was handed out stays as it was.
            for (dead, *rest), (wires, *lists) in kept:
                self.assertEqual((vars(dead), list(map(list, rest))), (wires, lists))


if __name__ == "__main__":
    unittest.main()
