"""sure, wait, most_dead, choose, mixups and clear, against all sets of dead wires and all pairs of truths."""

import itertools
import random
import unittest

from tests import brute, brute_watching
from tests.values import refused
from wiresindark.boards import Board
from wiresindark.errors import BadParts
from wiresindark.films import Film, running
from wiresindark.pictures import Dead, Picture
from wiresindark.watching import choose, clear, mixups, most_dead, sure, wait

FORMS = ((1, 1), (1, 2), (2, 2), (1, 4), (2, 3), (3, 2), (3, 3), (3, 3), (3, 4))


def changed(generator, film):
    """A film that has much in common with this one, so that both can be mixed up with some dead wires."""
    board = film.board
    way = generator.randrange(5)
    if way == 0:
        return film >> generator.randrange(len(film))
    if way == 1:
        return film * 2 if len(film) < 3 else film
    dead = brute.dead_from(board, brute.any_wires(generator, board, 0.3))
    if way == 2:
        return Film(tuple(picture - dead for picture in film.pictures))
    if way == 3:
        spots = brute.any_picture(generator, board, 0.6) & Picture(board, dead.dots)
        return Film(tuple(picture ^ spots for picture in film.pictures))
    return Film(tuple(picture ^ brute.any_picture(generator, board, 0.15) for picture in film.pictures))


def some_films(generator, form, most=3):
    board = brute.any_board(generator, form[0], form[1], generator.choice((0, 0, 0.3)))
    first = brute.any_film(generator, board, generator.randint(1, most), generator.choice((0.3, 0.6, 0.9)))
    films = [first]
    for _ in range(generator.randint(0, 2)):
        films.append(changed(generator, generator.choice(films)))
    for _ in range(generator.choice((0, 0, 1, 2))):
        films.append(brute.any_film(generator, board, generator.randint(1, most), 0.5))
    return tuple(films)


def some_parts(generator, films):
    way = generator.randrange(4)
    if way == 0:
        return None
    if way == 1:
        return tuple(("part" + "abcdef"[number],) * len(film) for number, film in enumerate(films))
    names = ("a", "b") if way == 2 else ("a", "b", "abcdefgh", "z", "hour", "zzzzzzzz")
    return tuple(tuple(generator.choice(names) for _ in film.pictures) for film in films)


def case(generator, form):
    """(films, looks, k, parts)."""
    films = some_films(generator, form)
    looks = brute.any_looks(generator, generator.randint(1, 3), 7)
    return films, looks, generator.choice((0, 0, 0, 1, 1, 2, 3, 4)), some_parts(generator, films)


def cases(number, many):
    generator = random.Random(number)
    return [case(generator, FORMS[place % len(FORMS)]) for place in range(many)]


class WatchingTest(unittest.TestCase):
    def check_mix_up(self, films, looks, k, parts, value):
        self.assertTrue(brute_watching.is_mix_up(films, looks, k, parts, value), value)

    def test_sure(self):
        found = []
        for films, looks, k, parts in cases(200, 500):
            with self.subTest(films=[film.pictures for film in films], looks=looks, k=k, parts=parts):
                value = sure(films, looks, k, parts)
                self.check_mix_up(films, looks, k, parts, value)
                found.append((value is None, parts is None))
        self.assertGreater(min(found.count(pair) for pair in itertools.product((True, False), repeat=2)), 25)

    def test_wait(self):
        found = []
        for films, _, k, parts in cases(201, 400):
            with self.subTest(films=[film.pictures for film in films], k=k, parts=parts):
                found.append(self.check_wait(films, k, parts))
        self.assertGreater(min(found.count(many) for many in (None, 0, 1, 2, 3)), 8)

    def check_wait(self, films, k, parts):
        value = wait(films, k, parts)
        self.assertIs(type(value), tuple)
        many, mix_up = value
        self.assertEqual(many, brute_watching.wait(films, k, parts))
        if many is None:
            self.check_mix_up(films, range(brute_watching.round_of(films)), k, parts, mix_up)
            self.assertIsNotNone(mix_up)
        elif many <= 1:
            self.assertIsNone(mix_up)
        else:
            self.check_mix_up(films, range(many - 1), k, parts, mix_up)
            self.assertIsNotNone(mix_up)
        return many

    def test_most_dead(self):
        found = []
        for films, looks, _, parts in cases(202, 300):
            with self.subTest(films=[film.pictures for film in films], looks=looks, parts=parts):
                k, mix_up = most_dead(films, looks, parts)
                good = [one for one in range(5) if brute_watching.least_pair(films, looks, one, parts) is None]
                self.assertEqual(k, max(good, default=None))
                self.assertIs(mix_up is None, k == 4)
                if mix_up is not None:
                    self.check_mix_up(films, looks, 0 if k is None else k + 1, parts, mix_up)
                found.append(k)
        self.assertGreater(min(found.count(k) for k in (None, 0, 1, 4)), 10)

    def test_choose(self):
        found = []
        generator = random.Random(203)
        for films, _, k, parts in cases(204, 260):
            ticks = sorted(generator.sample(range(8), generator.choice((1, 1, 2, 3, 4, 5))))
            offers = tuple((tick, generator.choice((0, 0, 1, 1, 2, 3, 9))) for tick in ticks)
            with self.subTest(films=[film.pictures for film in films], offers=offers, k=k, parts=parts):
                self.check_choice(films, offers, k, parts, choose(films, offers, k, parts))
                value = choose(films, offers, k, parts)
                found.append((value[0], min(len(value[-1]), 2)))
        for pair in (("looks", 0), ("looks", 1), ("looks", 2), ("none", 1), ("none", 2)):
            self.assertGreater(found.count(pair), 1, pair)

    def check_choice(self, films, offers, k, parts, value):
        self.assertIs(type(value), tuple)
        self.assertIs(type(value[-1]), tuple)
        choices = brute_watching.choices(offers)
        pairs = [brute_watching.least_pair(films, ticks, k, parts) for _, ticks in choices]
        if None in pairs:
            place = pairs.index(None)
            self.assertEqual(value[:3], ("looks", choices[place][1], choices[place][0]))
            self.assertEqual(len(value), 4)
        else:
            place = len(pairs)
            self.assertEqual((value[0], len(value)), ("none", 2))
        self.assertEqual(len(value[-1]), place)
        for (_, ticks), mix_up in zip(choices, value[-1]):
            self.check_mix_up(films, ticks, k, parts, mix_up)

    def test_mixups_and_clear(self):
        found = []
        for films, looks, k, _ in cases(205, 400):
            with self.subTest(films=[film.pictures for film in films], looks=looks, k=k):
                pairs, kept = mixups(films, looks, k), clear(films, looks, k)
                self.assertEqual(pairs, brute_watching.films_mixed(films, looks, k))
                self.assertEqual(kept, brute_watching.clear(films, looks, k))
                self.assertTrue(type(pairs) is type(kept) is tuple and all(type(pair) is tuple for pair in pairs))
                found.append((len(films) - len(kept), min(len(pairs), 2)))
        self.assertGreater(min(found.count(pair) for pair in ((0, 0), (1, 1), (1, 2), (2, 2))), 5)

    def test_clear_of_six_films(self):
        generator = random.Random(206)
        found = []
        for place in range(60):
            board = Board(("oooo",) * (2 + place % 3))
            share = generator.choice((0.2, 0.4, 0.6))
            films = tuple(brute.any_film(generator, board, 1, share) for _ in range(6))
            looks, k = (generator.randrange(9),), generator.choice((0, 1, 1, 2))
            self.assertEqual(mixups(films, looks, k), brute_watching.films_mixed(films, looks, k))
            self.assertEqual(clear(films, looks, k), brute_watching.clear(films, looks, k))
            found.append(len(clear(films, looks, k)))
        self.assertGreater(min(found.count(many) for many in (1, 2, 3, 4, 6)), 1, found)

    def test_clear_takes_the_least_of_several(self):
        board = Board(("oooo",))
        one, two, three = [Film((Picture(board, ((0, number),)),)) for number in (0, 1, 2)]
        self.assertEqual(mixups((one, two, one, two), (0,), 0), ((0, 2), (1, 3)))
        self.assertEqual(clear((one, two, one, two), (0,), 0), (0, 1))
        self.assertEqual(clear((one, one, two, two, three), (5,), 0), (0, 2, 4))
        self.assertEqual(clear((one, two, three), (0,), 1), (0,))
        self.assertEqual(clear((one,), (0,), 4), (0,))
        self.assertEqual(clear((one,) * 6, (0,), 0), (0,))
        self.assertEqual((mixups((one,), (0,), 4), mixups((one, two), (0,), 0)), ((), ()))
        # More than the neighbours of the first one.
        dark = Film((Picture(board),))
        both = Film((Picture(board, ((0, 0), (0, 1))),))
        self.assertEqual(mixups((dark, one, both), (0,), 0), ())
        fork = Film((Picture(board, ((0, 0),)), Picture(board, ((0, 1),)), Picture(board, ((0, 2),))))
        self.assertEqual(mixups((fork, one, two, three), (0,), 0), ((0, 1), (0, 2), (0, 3)))
        self.assertEqual(clear((fork, one, two, three), (0,), 0), (1, 2, 3))

    def test_alike_films_are_mixed_up(self):
        board = Board(("oo",))
        film = Film((Picture(board, ((0, 0),)), Picture(board, ((0, 1),))))
        for other in (film, film + film, film >> 1, film * 1):
            self.assertEqual(mixups((film, other), (0, 1), 0), ((0, 1),))
            self.assertIsNone(sure((film, other), (0, 1), 0))
            self.assertEqual(most_dead((film, other), (0, 1))[0], 0)


class PartsTest(unittest.TestCase):
    def setUp(self):
        self.board = Board(("oo",))
        self.left, self.right = [Picture(self.board, ((0, number),)) for number in (0, 1)]
        self.film = Film((self.left, self.right))

    def test_alike_truths_with_unlike_parts(self):
        films, dark = (self.film, self.film), Dead(self.board)
        parts = (("a", "a"), ("b", "b"))
        for k in range(5):
            self.assertEqual(sure(films, (0, 1), k, parts)[:2], ((0, 0), (1, 0)))
        self.assertEqual(sure(films, (0, 1), 0, parts), ((0, 0), (1, 0), dark, dark))
        self.assertEqual(wait(films, 0, parts), (None, ((0, 0), (1, 0), dark, dark)))
        self.assertEqual(most_dead(films, (0, 1), parts), (None, ((0, 0), (1, 0), dark, dark)))
        self.assertEqual(choose(films, ((3, 1),), 0, parts), ("none", (((0, 0), (1, 0), dark, dark),)))
        twice = Film((self.left, self.right) * 2)
        self.assertEqual(sure((twice,), (0, 1), 0, (("a", "b", "c", "b"),)), ((0, 0), (0, 2), dark, dark))
        self.assertIsNone(sure((twice,), (0, 1), 0, (("a", "b", "a", "b"),)))

    def test_unlike_truths_with_alike_parts(self):
        for k in range(5):
            self.assertIsNone(sure((self.film,), (0,), k, (("a", "a"),)))
            self.assertEqual(wait((self.film,), k, (("a", "a"),)), (0, None))
        self.assertEqual(most_dead((self.film,), (0,), (("a", "a"),)), (4, None))
        self.assertEqual(choose((self.film,), ((4, 9),), 4, (("a", "a"),)), ("looks", (4,), 9, ()))
        self.assertEqual(sure((self.film,), (0,), 1)[:2], ((0, 0), (0, 1)))
        self.assertEqual(sure((self.film,), (0,), 1, (("a", "b"),))[:2], ((0, 0), (0, 1)))

    def test_the_part_is_the_name_at_the_begin(self):
        dark, lit = Picture(self.board), Picture(self.board, self.board.dots)
        films = (Film((dark, lit, dark)), Film((dark,)))
        parts = (("x", "y", "z"), ("x",))
        self.assertEqual(sure(films, (0,), 0, parts)[:2], ((0, 0), (0, 2)))
        self.assertEqual(sure(films, (0, 4), 0, parts)[:2], ((0, 2), (1, 0)))
        self.assertIsNone(sure(films, (0, 1, 2), 0, parts))
        for looks in brute.subsets(range(4)):
            if looks:
                value = sure(films, looks, 0, parts)
                self.assertTrue(brute_watching.is_mix_up(films, looks, 0, parts, value))

    def test_parts_of_several_films(self):
        films = (self.film, Film((self.left,)), self.film * 2)
        good = (("a", "b"), ("a",), ("a", "b", "c", "abcdefgh"))
        offers = ((0, 1),)
        self.assertIsNotNone(sure(films, (0,), 0, good))
        wrong = [good[:2], good + (("a",),), good[::-1], (good[0], (), good[2]), (good[0], ("a", "b"), good[2]), (good[0], None, good[2])]
        wrong += [(("a", "B"),) + good[1:], good[:2] + (("a", "b", "c", 0),), good[:2] + (("a", "b", "c"),), (good[1], good[0], good[2])]
        wrong += [list(good), good[:2] + (list(good[2]),), (list(good[0]),) + good[1:], (good[0], "a", good[2]), (("a", "b"),) * 3]
        for parts in wrong:
            for call in (lambda: sure(films, (0,), 1, parts), lambda: wait(films, 1, parts), lambda: most_dead(films, (0,), parts),
                         lambda: choose(films, offers, 1, parts)):
                refused(self, BadParts, parts, call)

    def test_named_and_left_out(self):
        films = (self.film,)
        self.assertEqual(sure(films, (0,), 1, parts=None), sure(films, (0,), 1))
        self.assertEqual(sure(parts=None, k=1, looks=(0,), films=films), sure(films, (0,), 1))
        self.assertEqual(wait(parts=(("a", "b"),), k=1, films=films), wait(films, 1, (("a", "b"),)))
        self.assertEqual(wait(films, 1), wait(films, 1, None))
        self.assertEqual(most_dead(parts=(("a", "b"),), looks=(0,), films=films), most_dead(films, (0,), (("a", "b"),)))
        self.assertEqual(most_dead(films, (0,)), most_dead(films, (0,), None))
        named = choose(parts=(("a", "b"),), k=1, offers=((0, 1), (1, 0)), films=films)
        self.assertEqual(named, choose(films, ((0, 1), (1, 0)), 1, (("a", "b"),)))
        self.assertEqual(choose(films, ((0, 1),), 1), choose(films, ((0, 1),), 1, None))
        self.assertEqual(mixups(k=0, looks=(0,), films=films * 2), mixups(films * 2, (0,), 0))
        self.assertEqual(clear(k=0, looks=(0,), films=films * 2), clear(films * 2, (0,), 0))


class EdgesTest(unittest.TestCase):
    def test_one_truth(self):
        board = Board(("o",))
        film = Film((Picture(board, ((0, 0),)),))
        for k in range(5):
            self.assertIsNone(sure((film,), (0,), k))
            self.assertEqual(wait((film,), k), (0, None))
            self.assertEqual(choose((film,), ((7, 3), (9, 2)), k), ("looks", (9,), 2, ()))
        self.assertEqual(most_dead((film,), (0,)), (4, None))
        self.assertEqual(wait((film, film * 2, film + film), 0), (0, None))

    def test_one_look_is_enough(self):
        board = Board(("oo", "oo"))
        films = (Film((Picture(board),)), Film((Picture(board, board.dots),)))
        self.assertEqual([wait(films, k)[0] for k in range(5)], [1, 1, None, None, None])
        self.assertEqual(wait(films, 1), (1, None))
        self.assertEqual(wait(films, 2)[1][:2], ((0, 0), (1, 0)))
        self.assertEqual(most_dead(films, (3,))[0], 1)
        self.assertEqual(most_dead(films, (3,))[1][:2], ((0, 0), (1, 0)))

    def test_most_dead_is_four(self):
        board = Board(("ooooo",) * 5)
        films = (Film((Picture(board),)), Film((Picture(board, tuple((at, at) for at in range(5))),)))
        self.assertEqual(most_dead(films, (0,)), (4, None))
        self.assertEqual(wait(films, 4), (1, None))
        films = (films[0], Film((Picture(board, tuple((at, at) for at in range(4))),)))
        k, mix_up = most_dead(films, (0,))
        self.assertEqual((k, mix_up[:2], len(mix_up[2]), len(mix_up[3])), (3, ((0, 0), (1, 0)), 0, 4))

    def test_twelve_looks_and_far_ticks(self):
        board = Board(("oo", "oo"))
        generator = random.Random(210)
        for place in range(20):
            films = tuple(brute.any_film(generator, board, many, 0.5) for many in (5, 7, 3))
            looks = tuple(sorted(generator.sample(range(10 ** 8, 10 ** 9), 12))) if place % 2 else tuple(range(12))
            for k in (0, 1, 2):
                value = sure(films, looks, k)
                self.assertTrue(brute_watching.is_mix_up(films, looks, k, None, value))
                self.assertEqual(mixups(films, looks, k), brute_watching.films_mixed(films, looks, k))
                self.assertTrue(brute_watching.is_mix_up(films, looks[-1:], k, None, sure(films, looks[-1:], k)))
            offers = tuple((tick, generator.randint(0, 9)) for tick in looks[:5])
            value = choose(films, offers, 1)
            good = [one for one in brute_watching.choices(offers) if brute_watching.least_pair(films, one[1], 1, None) is None]
            self.assertEqual(value[:3] if value[0] == "looks" else None, ("looks", *good[0][::-1]) if good else None)

    def test_lengths_without_a_common_divisor(self):
        """Two films that show the same for 21 ticks."""
        board = Board(("oo", "oo"))
        dark, lit = Picture(board), Picture(board, ((0, 0), (1, 1)))
        longer, shorter = Film((dark,) * 10 + (lit, dark)), Film((dark,) * 10 + (lit,))
        parts = (("a",) * 12, ("b",) * 11)
        many, mix_up = wait((longer, shorter), 0, parts)
        self.assertEqual((many, mix_up[:2]), (22, ((0, 0), (1, 0))))
        self.assertEqual(wait((longer, shorter), 0)[0], 22)
        self.assertEqual(wait((longer, shorter), 1, parts)[0], 22)
        self.assertTrue(brute_watching.shows_alike((longer, shorter), range(21), 0, mix_up))
        many, mix_up = wait((longer, shorter), 2, parts)
        self.assertEqual((many, mix_up[:2]), (None, ((0, 0), (1, 0))))
        self.assertTrue(brute_watching.shows_alike((longer, shorter), range(132), 2, mix_up))
        self.assertIsNone(sure((longer, shorter), tuple(range(11, 22)) + (22,), 0, (("a",) + ("b",) * 11, ("b",) * 11)))
        self.assertEqual(sure((longer, shorter), tuple(range(12)), 0, parts)[:2], ((0, 0), (1, 0)))

    def test_waiting_of_unlike_lengths(self):
        generator = random.Random(211)
        found = []
        for place in range(60):
            board = brute.any_board(generator, generator.randint(1, 2), generator.randint(1, 2), 0)
            lengths = generator.choice(((5, 3), (4, 3), (5, 4), (2, 3, 4), (5, 6), (7, 2), (6, 4)))
            whole = brute.any_film(generator, board, 7, generator.choice((0.2, 0.5)))
            films = tuple(Film(whole.pictures[:many]) for many in lengths)
            parts = tuple((name,) * many for name, many in zip("abc", lengths)) if place % 2 else None
            k = generator.choice((0, 0, 0, 1, 2))
            value = wait(films, k, parts)
            self.assertEqual(value[0], brute_watching.wait(films, k, parts))
            looks = range(brute_watching.round_of(films) if value[0] is None else max(value[0] - 1, 0))
            if value[1] is not None:
                self.assertTrue(brute_watching.is_mix_up(films, looks, k, parts, value[1]))
            found.append(value[0])
        self.assertGreater(max(many for many in found if many is not None), 6)
        self.assertGreater(found.count(None), 5)

    def test_six_films_of_twenty_four_pictures(self):
        board = Board(("ooo", "oo."))
        generator = random.Random(212)
        for _ in range(6):
            films = tuple(brute.any_film(generator, board, 4, 0.5) for _ in range(6))
            for k in (0, 1):
                looks = tuple(range(4))
                self.assertTrue(brute_watching.is_mix_up(films, looks, k, None, sure(films, looks, k)))
                self.assertEqual(wait(films, k)[0], brute_watching.wait(films, k, None))
                self.assertEqual(clear(films, looks, k), brute_watching.clear(films, looks, k))

    def test_prices_and_order_of_choices(self):
        board = Board(("oo", "oo"))
        film = Film((Picture(board, ((0, 0),)), Picture(board, ((1, 1),))))
        # One look is as good as any other: the price decides, then the ticks.
        self.assertEqual(choose((film,), ((0, 9), (3, 2), (4, 2), (5, 3)), 0), ("looks", (3,), 2, ()))
        self.assertEqual(choose((film,), ((0, 0), (1, 0)), 0), ("looks", (0,), 0, ()))
        found = choose((film,), ((0, 0), (1, 0), (2, 0)), 1)
        self.assertEqual((found[:3], len(found[3])), (("looks", (0, 1), 0), 1))
        found = choose((film,), ((0, 1), (2, 1), (5, 9)), 1)
        self.assertEqual((found[:3], len(found[3])), (("looks", (0, 5), 10), 4))
        found = choose((film,), ((0, 9), (2, 9), (4, 9), (6, 9), (8, 9)), 1)
        self.assertEqual((found[0], len(found[1])), ("none", 31))
        self.assertEqual(brute_watching.choices(((0, 0), (1, 0), (2, 0)))[:3], [(0, (0,)), (0, (0, 1)), (0, (0, 1, 2))])
        self.assertEqual(choose((film,), ((999999999, 0),), 0), ("looks", (999999999,), 0, ()))

    def test_great_boards(self):
        generator = random.Random(213)
        words = []
        for form in ((10, 10), (10, 3), (1, 10), (10, 10), (7, 9)) * 3:
            board = brute.any_board(generator, form[0], form[1], generator.choice((0, 0.3)))
            base = [brute.any_picture(generator, board, generator.choice((0.1, 0.5))) for _ in range(6)]
            films = []
            for many in (6, 5, 4):
                films.append(Film(tuple(one ^ brute.any_picture(generator, board, 0.02) for one in base[:many])))
            looks = tuple(sorted(generator.sample(range(10 ** 9), 2)))
            for k in range(5):
                value = sure(tuple(films), looks, k)
                words.append(value is None)
                pairs = [pair for pair in itertools.combinations(brute.truths(films), 2)
                         if brute_watching.are_unlike(films, *pair, None)]
                self.assertTrue(value is None or value[:2] in pairs)
                if value is not None:
                    self.assertTrue(brute_watching.shows_alike(films, looks, k, value))
                if k < 2:
                    self.assertTrue(brute_watching.is_mix_up(films, looks, k, None, value))
                many, mix_up = wait(tuple(films), k)
                if mix_up is not None:
                    ticks = range(60 if many is None else many - 1)
                    self.assertTrue(brute_watching.shows_alike(films, ticks, k, mix_up))
                self.assertTrue(many is None or sure(tuple(films), tuple(range(many)), k) is None)
            most, mix_up = most_dead(tuple(films), looks)
            self.assertEqual(most, max([k for k in range(5) if sure(tuple(films), looks, k) is None], default=None))
        self.assertGreater(min(words.count(True), words.count(False)), 5)

    def test_equal_boards_made_anew(self):
        for films, looks, k, parts in cases(214, 40):
            again = tuple(Film(tuple(Picture(Board(film.board.rows), one.dots) for one in film.pictures)) for film in films)
            self.assertEqual(sure(again, looks, k, parts), sure(films, looks, k, parts))
            self.assertEqual(wait(again, k, parts), wait(films, k, parts))
            self.assertEqual(mixups(films + again[:1], looks, k), mixups(films + films[:1], looks, k))

    def test_equal_calls_tell_equal_things_and_change_nothing(self):
        for films, looks, k, parts in cases(215, 40):
            before = [dict(vars(film)) for film in films]
            offers = tuple((tick, 1) for tick in looks)
            calls = [
                lambda: sure(films, looks, k, parts), lambda: wait(films, k, parts), lambda: most_dead(films, looks, parts),
                lambda: choose(films, offers, k, parts), lambda: mixups(films, looks, k), lambda: clear(films, looks, k),
            ]
            for call in calls:
                self.assertEqual(call(), call())
            self.assertEqual([vars(film) for film in films], before)

    def test_running_texts(self):
        board = Board(("ooooo",) * 3)
        film = running(board, ((0, 1), (2,), (), (1,)))
        for k in range(3):
            self.assertEqual(wait((film,), k)[0], brute_watching.wait((film,), k, None))


if __name__ == "__main__":
    unittest.main()
