"""Causes and stair, against all sets of dead wires on small boards."""

import itertools
import unittest

from tests import brute
from tests.cases import all_small_cases, cases
from tests.values import any_values, refused
from wiresindark.boards import Board
from wiresindark.errors import BadNumber, NoCause, WireError
from wiresindark.explaining import Causes, explained, shows_explained, stair
from wiresindark.films import Film
from wiresindark.pictures import Dead, Picture


def lit_alone(board, *dots):
    return Film((Picture(board, tuple(sorted(dots))),))


def dark(board):
    return ((0, Picture(board)),)


def all_of(causes):
    return [causes[number] for number in range(len(causes))]


class CausesTest(unittest.TestCase):
    def check(self, film, seen, alive, dying):
        least = brute.fewest(film, seen, alive, dying)
        if not least:
            with self.assertRaises(WireError) as caught:
                Causes(film, seen, alive=alive, dying=dying)
            self.assertIs(caught.exception.__class__, NoCause)
            value = caught.exception.value
            self.assertIn(value[0], ("stray", "barred"))
            self.assertTrue(brute.is_explained(film, seen, value, alive, dying))
            self.assertTrue(shows_explained(film, seen, value, alive=alive, dying=dying))
            return 0
        causes = Causes(film, seen, alive=alive, dying=dying)
        board = film.board
        self.assertEqual(len(causes), len(least))
        self.assertEqual(all_of(causes), least)
        self.assertEqual(causes.number, len(least[0]))
        always = [wire for wire in board.wires if all(wire in dead.wires for dead in least)]
        never = [wire for wire in board.wires if not any(wire in dead.wires for dead in least)]
        self.assertEqual(causes.always, brute.dead_from(board, always))
        self.assertEqual(causes.never, brute.dead_from(board, never))
        self.assertEqual([causes.first], [dead for dead in least if dead.rows == min(least, key=self.many_rows).rows])
        self.assertEqual([causes.last], [dead for dead in least if len(dead.rows) == max(map(self.many_rows, least))])
        self.assertEqual(len(causes.first.rows), min(map(self.many_rows, least)))
        self.assertEqual(causes.blocks, brute.blocks(least, board))
        self.assertEqual(causes.arrows, brute.arrows(least, causes.blocks))
        for dead in brute.all_deads(Board(board.rows), 3):
            self.assertIs(dead in causes, dead in least)
        self.check_guarantees(causes, film, seen, alive, dying)
        return len(least)

    def many_rows(self, dead):
        return len(dead.rows)

    def check_guarantees(self, causes, film, seen, alive, dying):
        found = all_of(causes)
        for one, other in itertools.product(found[:6], repeat=2):
            self.assertIn(one.over(other), causes)
            self.assertIn(one.under(other), causes)
        for block in causes.blocks:
            self.assertEqual(len(block[0]), len(block[1]))
        made = []
        for chosen in itertools.product((False, True), repeat=len(causes.blocks)):
            if any(chosen[one] and not chosen[other] for one, other in causes.arrows):
                continue
            dead = causes.always
            for by_rows, (rows, columns) in zip(chosen, causes.blocks):
                dead = dead | (Dead(film.board, rows) if by_rows else Dead(film.board, (), columns))
            made.append((dead.rows, dead.columns))
        self.assertEqual(sorted(made), [(dead.rows, dead.columns) for dead in found])
        result = explained(film, seen, alive=alive, dying=dying)
        for dead in found[:6]:
            value = ("explained", dead, result[2])
            self.assertIs(shows_explained(film, seen, value, alive=alive, dying=dying), True)

    def test_against_the_words(self):
        many = []
        for film, seen, alive, dying in cases(30, 600):
            with self.subTest(film=film.pictures, seen=seen, alive=alive, dying=dying):
                many.append(self.check(film, seen, alive, dying))
        self.assertGreater(min(many.count(number) for number in (0, 1, 2)), 15)
        self.assertGreater(len([number for number in many if number > 2]), 15)

    def test_all_of_one_picture(self):
        for film, seen in all_small_cases():
            with self.subTest(film=film[0].rows, seen=seen[0][1].rows):
                self.check(film, seen, (), False)
                self.check(film, seen, film.board.wires[1::2], True)

    def test_all_pictures_of_three_by_three(self):
        board = Board(("ooo", "ooo", "ooo"))
        for many, dots in enumerate(brute.subsets(board.dots)):
            if many % 3 == 0:
                with self.subTest(dots=dots):
                    self.check(lit_alone(board, *dots), dark(board), (), False)

    def test_nothing_missing(self):
        for rows in (("o",), ("oo", "o."), ("o" * 10,) * 10):
            board = Board(rows)
            for lit in ((), board.dots[:1], board.dots):
                causes = Causes(lit_alone(board, *lit), ((5, Picture(board, lit)),))
                none = Dead(board)
                self.assertEqual((causes.number, len(causes), causes[0], causes.always), (0, 1, none, none))
                self.assertEqual((causes.first, causes.last, causes.blocks, causes.arrows), (none, none, (), ()))
                self.assertEqual(causes.never.wires, board.wires)
                self.assertIs(none in causes, True)
                self.assertIs(Dead(board, (0,)) in causes, False)

    def test_one_dot_each(self):
        board = Board(("o" * 10,) * 10)
        for many in range(11):
            causes = Causes(lit_alone(board, *[(at, at) for at in range(many)]), dark(board))
            numbers = tuple(range(many))
            self.assertEqual((causes.number, len(causes)), (many, 2 ** many))
            self.assertEqual(causes.blocks, tuple(((at,), (at,)) for at in range(many)))
            self.assertEqual(causes.arrows, ())
            self.assertEqual((causes.first, causes.last), (Dead(board, (), numbers), Dead(board, numbers)))
            self.assertEqual(causes[0], causes.first)
            self.assertEqual(causes[len(causes) - 1], Dead(board, (many - 1,), numbers[:-1]) if many else Dead(board))
            self.assertEqual(causes.always, Dead(board))

    def test_stairs_of_dots(self):
        board = Board(("o" * 10,) * 10)
        for many in range(1, 11):
            dots = [(row, column) for row in range(many) for column in range(row, many)]
            causes = Causes(lit_alone(board, *dots), dark(board))
            self.assertEqual(len(causes), many + 1)
            self.assertEqual(causes.arrows, tuple((one, other) for one in range(many) for other in range(one)))

    def test_large_blocks(self):
        board = Board(("o" * 10,) * 10)
        for many in range(1, 11):
            dots = [(row, column) for row in range(many) for column in range(many)]
            causes = Causes(lit_alone(board, *dots), dark(board))
            numbers = tuple(range(many))
            self.assertEqual(causes.blocks, ((numbers, numbers),))
            self.assertEqual(all_of(causes), [Dead(board, (), numbers), Dead(board, numbers)])
            self.assertEqual(causes.never.rows, tuple(range(many, 10)))

    def test_what_is_always_and_never_dead(self):
        board = Board(("ooo", "ooo"))
        causes = Causes(lit_alone(board, (0, 0), (0, 1), (0, 2)), dark(board))
        self.assertEqual((causes.always, causes.number), (Dead(board, (0,)), 1))
        self.assertEqual(causes.never, Dead(board, (1,), (0, 1, 2)))
        self.assertEqual((causes.first, causes.last, causes.blocks), (Dead(board, (0,)), Dead(board, (0,)), ()))

    def test_alive_and_dying(self):
        board = Board(("oo", "oo"))
        film = lit_alone(board, *board.dots)
        self.assertEqual(len(Causes(film, dark(board))), 2)
        self.assertEqual(all_of(Causes(film, dark(board), alive=(("row", 1),))), [Dead(board, (), (0, 1))])
        seen = ((0, Picture(board, ((0, 0),))), (1, Picture(board)))
        self.assertEqual(all_of(Causes(film, seen, dying=True)), [Dead(board, (0, 1), (1,)), Dead(board, (1,), (0, 1))])
        for value in any_values():
            if value is not True:
                with self.assertRaises(NoCause) as caught:
                    Causes(film, seen, dying=value)
                self.assertEqual(caught.exception.value[0], "barred")

    def test_refused_numbers(self):
        board = Board(("oo", "oo"))
        causes = Causes(lit_alone(board, (0, 0), (1, 1)), dark(board))
        self.assertEqual(len(causes), 4)
        for value in any_values() + [-1, -4, 4, 5, True, False, [0], (0,), "0", 3, 0]:
            if type(value) is int and 0 <= value < 4:
                self.assertEqual(causes[value], all_of(causes)[value])
                continue
            with self.subTest(value=value):
                refused(self, BadNumber, value, lambda: causes[value])
        none = Causes(lit_alone(board), dark(board))
        refused(self, BadNumber, 1, lambda: none[1])

    def test_contains_no_other_value(self):
        board = Board(("oo", "o."))
        causes = Causes(lit_alone(board, (0, 0)), dark(board))
        good = Dead(Board(("oo", "o.")), (0,))
        self.assertIs(good in causes, True)
        larger = Board(("oo", "oo"))
        others = [Dead(larger, (0,)), Dead(~board, (1,)), Dead(board, (1,)), Dead(board, (0,), (0,)), Dead(board)]
        for value in others + [good.wires, (good.rows, good.columns), good.dots, [good], (good,)] + any_values():
            with self.subTest(value=value):
                self.assertIs(value in causes, False)

    def test_is_not_iterated(self):
        board = Board(("oo", "o."))
        self.assertRaises(TypeError, iter, Causes(lit_alone(board), dark(board)))

    def test_by_name(self):
        for film, seen, alive, dying in cases(31, 40):
            if not brute.fewest(film, seen, alive, dying):
                continue
            one = Causes(film, seen, alive=alive, dying=dying)
            other = Causes(dying=dying, alive=alive, seen=seen, film=film)
            self.assertEqual(all_of(one), all_of(other))
            self.assertRaises(TypeError, Causes, film, seen, alive)
            self.assertRaises(TypeError, Causes, film, seen, alive, dying)

    def test_turned(self):
        for film, seen, alive, dying in cases(32, 200):
            if not brute.fewest(film, seen, alive, dying):
                continue
            film_turned = Film(tuple(~picture for picture in film.pictures))
            words = {"row": "column", "column": "row"}
            wires = tuple(sorted((words[kind], number) for kind, number in alive))
            one = Causes(film, seen, alive=alive, dying=dying)
            other = Causes(film_turned, tuple((tick, ~picture) for tick, picture in seen), alive=wires, dying=dying)
            self.assertEqual(len(one), len(other))
            for dead in all_of(one):
                self.assertIn(~dead, other)
            self.assertEqual((~one.first, ~one.always, ~one.never), (other.last, other.always, other.never))
            self.assertEqual(sorted((columns, rows) for rows, columns in one.blocks), list(other.blocks))
            by_block = {(columns, rows): place for place, (rows, columns) in enumerate(other.blocks)}
            back = [(by_block[one.blocks[at]], by_block[one.blocks[to]]) for at, to in one.arrows]
            self.assertEqual(sorted((to, at) for at, to in back), list(other.arrows))


class StairTest(unittest.TestCase):
    def test_against_the_words(self):
        found = []
        for film, seen, _, _ in cases(33, 500):
            with self.subTest(film=film.pictures, seen=seen):
                found.append(stair(film, seen))
                self.assertEqual(found[-1], brute.stairs(film, seen))
        self.assertGreater(len([pairs for pairs in found if len(pairs) > 2]), 10)
        self.assertGreater(found.count(()), 50)

    def test_all_of_one_picture(self):
        for film, seen in all_small_cases():
            self.assertEqual(stair(film=film, seen=seen), brute.stairs(film, seen))

    def test_nothing_missing(self):
        board = Board(("oo", "o."))
        self.assertEqual(stair(lit_alone(board, (0, 1)), ((3, Picture(board, ((0, 1),))),)), ((0, 0),))
        self.assertEqual(stair(lit_alone(board), dark(board)), ((0, 0),))

    def test_nothing_explains(self):
        board = Board(("oo", "oo"))
        self.assertEqual(stair(lit_alone(board), ((0, Picture(board, ((1, 1),))),)), ())
        seen = ((0, Picture(board, ((0, 1), (1, 0)))),)
        self.assertEqual(stair(lit_alone(board, *board.dots), seen), ())

    def test_great_stairs(self):
        board = Board(("o" * 10,) * 10)
        self.assertEqual(stair(lit_alone(board, *board.dots), dark(board)), ((0, 10), (10, 0)))
        diagonal = [(at, at) for at in range(10)]
        self.assertEqual(stair(lit_alone(board, *diagonal), dark(board)), tuple((at, 10 - at) for at in range(11)))
        self.assertEqual(stair(lit_alone(board, *[(0, at) for at in range(10)]), dark(board)), ((0, 10), (1, 0)))
        self.assertEqual(stair(lit_alone(board, *[(at, 0) for at in range(10)]), dark(board)), ((0, 1), (10, 0)))

    def test_no_other_arguments(self):
        board = Board(("oo", "oo"))
        self.assertRaises(TypeError, stair, lit_alone(board), dark(board), ())
        with self.assertRaises(TypeError):
            stair(lit_alone(board), dark(board), dying=True)


if __name__ == "__main__":
    unittest.main()
