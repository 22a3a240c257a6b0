"""told, least_dead, surely and expected, against all sets of dead wires on small boards."""

import random
import unittest

from tests import brute
from tests.cases import one_dot_otherwise
from tests.values import any_values
from wiresindark.boards import Board
from wiresindark.films import Film, running, shown
from wiresindark.pictures import Dead, Picture
from wiresindark.telling import expected, least_dead, surely, told

FORMS = ((1, 1), (1, 3), (2, 2), (2, 2), (2, 3), (3, 2), (3, 3), (4, 2), (4, 4))


def case(generator, form):
    """(films, seen, k, dying): one of the films runs, mostly with at most k dead wires."""
    board = brute.any_board(generator, form[0], form[1], generator.choice((0, 0, 0.3)))
    films = []
    for _ in range(generator.randint(1, 4)):
        films.append(brute.any_film(generator, board, generator.randint(1, 3), generator.choice((0.3, 0.5, 0.8))))
    if generator.random() < 0.3:
        films.append(films[0] >> 1)
    many = generator.randint(1, 3)
    looks = brute.any_looks(generator, many, 6)
    dying = generator.random() < 0.4
    share = generator.choice((0, 0.2, 0.4, 0.7))
    deaths = brute.any_deaths(generator, board, many, share) if dying else [brute.any_wires(generator, board, share)] * many
    seen = brute.seen_of(generator.choice(films), looks, deaths)
    if generator.random() < 0.15:
        seen = one_dot_otherwise(generator, seen)
    k = generator.choice((0, 1, 2, 3, len(deaths[-1]), len(deaths[-1]) + 1, 20))
    return tuple(films[:6]), seen, k, dying if generator.random() < 0.8 else not dying


def cases(number, many):
    generator = random.Random(number)
    return [case(generator, FORMS[place % len(FORMS)]) for place in range(many)]


class TellingTest(unittest.TestCase):
    def test_told(self):
        found = []
        for films, seen, k, dying in cases(40, 400):
            with self.subTest(films=[film.pictures for film in films], seen=seen, k=k, dying=dying):
                result = told(films, seen, k, dying=dying)
                self.assertEqual(result, brute.told(films, seen, k, dying))
                self.assertTrue(type(result) is tuple and all(type(truth) is tuple for truth in result))
                found.append(len(result))
        self.assertGreater(min(found.count(0), found.count(1), found.count(2)), 30)

    def test_least_dead(self):
        found = []
        for films, seen, k, dying in cases(41, 300):
            with self.subTest(films=[film.pictures for film in films], seen=seen, dying=dying):
                result = least_dead(films, seen, dying=dying)
                self.assertEqual(result, min([fewest for _, _, fewest in brute.told(films, seen, 20, dying)], default=None))
                found.append(result)
                if result is not None:
                    self.assertNotEqual(told(films, seen, result, dying=dying), ())
                    self.assertTrue(result == 0 or told(films, seen, result - 1, dying=dying) == ())
        self.assertGreater(min(found.count(None), found.count(0), found.count(1), found.count(2)), 20)

    def test_surely(self):
        found = []
        for films, seen, k, dying in cases(42, 400):
            with self.subTest(films=[film.pictures for film in films], seen=seen, k=k, dying=dying):
                result = surely(films, seen, k, dying=dying)
                self.assertEqual(result, brute.surely(films, seen, k, dying))
                self.assertIn(type(result), (tuple, type(None)))
                found.append(result)
        dead = [pair for pair in found if pair is not None and len(pair[0])]
        self.assertGreater(min(len(dead), found.count(None), len(found) - len(dead)), 40)

    def test_expected(self):
        found = []
        generator = random.Random(43)
        for films, seen, k, _ in cases(44, 400):
            tick = generator.choice((0, 1, 2, 5, 999999999, 123456789, seen[0][0], seen[-1][0]))
            with self.subTest(films=[film.pictures for film in films], seen=seen, k=k, tick=tick):
                result = expected(films, seen, k, tick)
                self.assertEqual(result, brute.expected(films, seen, k, tick))
                self.assertIn(type(result), (tuple, type(None)))
                found.append(result)
        told_of = [pair for pair in found if pair is not None]
        lit = [pair for pair in told_of if len(pair[0])]
        unsure = [pair for pair in told_of if len(pair[0]) + len(pair[1]) < len(pair[0].board)]
        self.assertGreater(min(len(lit), len(unsure), found.count(None)), 40)

    def test_expected_at_a_look_is_what_was_seen(self):
        for films, seen, k, _ in cases(45, 150):
            for tick, picture in seen:
                result = expected(films, seen, k, tick)
                if result is not None:
                    self.assertEqual(result[0], picture)
                    self.assertEqual(result[1], Picture(picture.board, picture.board.dots) - picture)

    def test_all_k(self):
        for films, seen, _, dying in cases(46, 60):
            for k in range(21):
                self.assertEqual(told(films, seen, k, dying=dying), brute.told(films, seen, k, dying))
                if k < 6 or k > 18:
                    self.assertEqual(surely(films, seen, k, dying=dying), brute.surely(films, seen, k, dying))
                    self.assertEqual(expected(films, seen, k, 3), brute.expected(films, seen, k, 3))

    def test_nothing_missing(self):
        board = Board(("oo", "oo"))
        picture = Picture(board, ((0, 0), (1, 1)))
        films, seen = (Film((picture,)),), ((0, picture),)
        self.assertEqual(told(films, seen, 0), ((0, 0, 0),))
        self.assertEqual(least_dead(films, seen), 0)
        self.assertEqual([dead.wires for dead in surely(films, seen, 20)], [(), board.wires])
        self.assertEqual([shown_dots.dots for shown_dots in expected(films, seen, 20, 9)], [picture.dots, ((0, 1), (1, 0))])

    def test_nothing_lit(self):
        board = Board(("oo", "oo"))
        films, seen = (Film((Picture(board),)),), ((0, Picture(board)),)
        self.assertEqual(told(films, seen, 0), ((0, 0, 0),))
        self.assertEqual([dead.wires for dead in surely(films, seen, 0)], [(), board.wires])
        self.assertEqual([dead.wires for dead in surely(films, seen, 1)], [(), ()])
        self.assertEqual([picture.dots for picture in expected(films, seen, 4, 1)], [(), board.dots])

    def test_everything_dark(self):
        board = Board(("ooo", "ooo"))
        films, seen = (Film((Picture(board, board.dots),)),), ((0, Picture(board)),)
        self.assertEqual([told(films, seen, k) for k in (0, 1, 2)], [(), (), ((0, 0, 2),)])
        self.assertEqual(least_dead(films, seen), 2)
        self.assertIsNone(surely(films, seen, 1))
        self.assertIsNone(expected(films, seen, 1, 0))
        self.assertEqual([dead.wires for dead in surely(films, seen, 2)], [(("row", 0), ("row", 1)), board.wires[:3]])
        self.assertEqual([dead.wires for dead in surely(films, seen, 3)], [(), ()])

    def test_nothing_told(self):
        board = Board(("oo", "oo"))
        films, seen = (Film((Picture(board),)),) * 6, ((0, Picture(board, board.dots)),)
        self.assertEqual(told(films, seen, 20), ())
        self.assertIsNone(least_dead(films, seen))
        self.assertIsNone(surely(films, seen, 20))
        self.assertIsNone(expected(films, seen, 20, 0))

    def test_six_films_of_twenty_four_pictures(self):
        board = Board(("oo", "oo"))
        pictures = [Picture(board, dots) for dots in brute.subsets(board.dots)]
        films = tuple(Film(tuple(pictures[place:place + 4])) for place in range(6))
        seen = ((3, pictures[5]),)
        self.assertEqual(told(films, seen, 0), brute.told(films, seen, 0))
        films = (Film(tuple(pictures[:12])), Film(tuple(pictures[4:])))
        self.assertEqual(told(films, seen, 1), brute.told(films, seen, 1))
        self.assertEqual([begin for number, begin, _ in told(films, seen, 0)], [2, 10])

    def test_begins(self):
        board = Board(("oooo",))
        film = running(board, ((0,), (), (), ()))
        seen = shown(film >> 1, (999999999,), Dead(board))
        self.assertEqual(told((film, film >> 2), seen, 0), ((0, 1, 0), (1, 3, 0)))
        self.assertEqual(expected((film,), seen, 0, 1000000000 - 1)[0], seen[0][1])
        self.assertEqual(expected((film,), seen, 0, 3)[0], film[4])
        self.assertEqual(expected((film,), seen, 0, 0)[0], film[1])

    def test_only_true_itself_means_dying(self):
        board = Board(("oo",))
        film = Film((Picture(board, board.dots),))
        films, seen = (film,), ((0, Picture(board, board.dots)), (1, Picture(board)))
        self.assertEqual(told(films, seen, 2, dying=True), ((0, 0, 1),))
        self.assertEqual(least_dead(films, seen, dying=True), 1)
        self.assertEqual(surely(films, seen, 1, dying=True), (Dead(board, (0,)), Dead(board, (), (0, 1))))
        for value in any_values():
            if value is not True:
                self.assertEqual(told(films, seen, 2, dying=value), ())
                self.assertIsNone(least_dead(films, seen, dying=value))
                self.assertIsNone(surely(films, seen, 2, dying=value))

    def test_by_position_and_by_name(self):
        for films, seen, k, dying in cases(47, 30):
            self.assertEqual(told(dying=dying, k=k, seen=seen, films=films), told(films, seen, k, dying=dying))
            self.assertEqual(least_dead(dying=dying, seen=seen, films=films), least_dead(films, seen, dying=dying))
            self.assertEqual(surely(dying=dying, k=k, seen=seen, films=films), surely(films, seen, k, dying=dying))
            self.assertEqual(expected(tick=5, k=k, seen=seen, films=films), expected(films, seen, k, 5))
            self.assertRaises(TypeError, told, films, seen, k, dying)
            self.assertRaises(TypeError, least_dead, films, seen, dying)
            self.assertRaises(TypeError, surely, films, seen, k, dying)
            self.assertRaises(TypeError, expected, films, seen, k, 5, dying)

    def test_equal_boards_made_anew(self):
        for films, seen, k, dying in cases(48, 40):
            rows = films[0].board.rows
            again = tuple(Film(tuple(Picture(Board(rows), one.dots) for one in film.pictures)) for film in films)
            looks = tuple((tick, Picture(Board(rows), one.dots)) for tick, one in seen)
            self.assertEqual(told(again, looks, k, dying=dying), told(films, seen, k, dying=dying))
            self.assertEqual(surely(again, looks, k, dying=dying), surely(films, seen, k, dying=dying))
            self.assertEqual(expected(again, looks, k, 2), expected(films, seen, k, 2))

    def test_nothing_is_changed(self):
        for films, seen, k, dying in cases(49, 20):
            before = [dict(vars(film)) for film in films], [dict(vars(picture)) for _, picture in seen]
            results = told(films, seen, k, dying=dying), surely(films, seen, k, dying=dying), expected(films, seen, k, 1)
            again = told(films, seen, k, dying=dying), surely(films, seen, k, dying=dying), expected(films, seen, k, 1)
            self.assertEqual(results, again)
            self.assertEqual(([vars(film) for film in films], [vars(picture) for _, picture in seen]), before)


if __name__ == "__main__":
    unittest.main()
