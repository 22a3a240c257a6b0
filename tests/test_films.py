import copy
import itertools
import random
import unittest

from tests.brute import any_board, any_film, any_picture, any_wires, dead_from, lit, seen_of
from tests.values import any_values, refused, small_boards
from wiresindark.boards import Board
from wiresindark.errors import BadLooks, BadPictures, BadStrip, BadTick, OtherBoard, TooLong, WireError
from wiresindark.films import Film, running, shown
from wiresindark.pictures import Dead, Picture, drawn

ROWS = ("oo.", ".oo")
FAR = (999999999, 123456789, 100000007, 999999996)


def board():
    return Board(ROWS)


def single(*numbers):
    """Pictures with one lit dot each, by the places of the dots."""
    return tuple(Picture(board(), (board().dots[number],)) for number in numbers)


def film(*numbers):
    return Film(single(*numbers))


def refused_as_too_long(test, many, call):
    with test.assertRaises(WireError) as caught:
        call()
    test.assertIs(caught.exception.__class__, TooLong)
    test.assertIs(caught.exception.value.__class__, int)
    test.assertEqual(caught.exception.value, many)


class FilmTest(unittest.TestCase):
    def test_attributes(self):
        for many in range(1, 13):
            pictures = single(*[place % 4 for place in range(many)])
            self.assertIs(Film(pictures).pictures, pictures)
            self.assertIs(Film(pictures=pictures).pictures, pictures)
            self.assertEqual(Film(pictures).board, board())
            self.assertEqual(len(Film(pictures)), many)

    def test_pictures_can_be_alike_and_dark(self):
        self.assertEqual(len(Film((Picture(board()),) * 12)), 12)
        for one in small_boards():
            self.assertEqual(Film((Picture(one), Picture(one, one.dots))).board, one)

    def test_boards_made_anew_are_one_board(self):
        self.assertEqual(len(Film((Picture(board()), Picture(Board(ROWS), ((0, 0),))))), 2)

    def test_refused_pictures(self):
        picture, other = Picture(board()), Picture(Board(("oo.", "ooo")))
        wrong = [
            (), (picture,) * 13, (picture,) * 30, [picture], [], picture, (picture, other), (other, picture),
            (picture, picture, other), (picture, None), (None, picture), (picture, ROWS), (ROWS,), (picture, Dead(board())),
            (Dead(board()),), (board(),), ((picture,),), (picture, [picture]), {0: picture}, "", (picture, 0), (True,),
            (Film((picture,)),), Film((picture,)), (other,) * 13, (picture, Picture(~board())), tuple([None] * 12),
        ]
        for pictures in wrong:
            with self.subTest(pictures=pictures):
                before = copy.deepcopy(pictures)
                refused(self, BadPictures, pictures, lambda: Film(pictures))
                refused(self, BadPictures, pictures, lambda: Film(pictures=pictures))
                self.assertEqual(pictures, before)

    def test_any_picture_is_shown_when_it_is_due(self):
        for many in range(1, 13):
            pictures = single(*[place * place % 4 for place in range(many)])
            shown_film = Film(pictures)
            for tick in (*range(40), *FAR):
                self.assertIs(shown_film[tick], pictures[tick % many])
            self.assertIs(shown_film[many - 1], pictures[-1])
            self.assertIs(shown_film[many], pictures[0])

    def test_is_not_iterated(self):
        self.assertRaises(TypeError, iter, film(0, 1))

    def test_begun_later(self):
        for many in range(1, 13):
            numbers = [place * place % 4 for place in range(many)]
            one = film(*numbers)
            for begin in (*range(30), *FAR):
                turned = one >> begin
                at = begin % many
                self.assertEqual(turned.pictures, single(*(numbers[at:] + numbers[:at])))
                self.assertIsInstance(turned, Film)
                for tick in range(15):
                    self.assertEqual(turned[tick], one[begin + tick])
            self.assertEqual(one.pictures, single(*numbers))

    def test_one_behind_the_other(self):
        for many, more in itertools.product(range(1, 13), repeat=2):
            numbers, others = [place % 4 for place in range(many)], [3 - place % 3 for place in range(more)]
            one, other = film(*numbers), film(*others)
            with self.subTest(many=many, more=more):
                if many + more <= 12:
                    self.assertEqual((one + other).pictures, single(*(numbers + others)))
                else:
                    refused_as_too_long(self, many + more, lambda: one + other)
                self.assertEqual((one.pictures, other.pictures), (single(*numbers), single(*others)))

    def test_each_picture_so_many_times(self):
        for many, times in itertools.product(range(1, 13), range(1, 15)):
            numbers = [place % 4 for place in range(many)]
            one = film(*numbers)
            with self.subTest(many=many, times=times):
                if many * times <= 12:
                    each = [number for number in numbers for _ in range(times)]
                    self.assertEqual((one * times).pictures, single(*each))
                else:
                    refused_as_too_long(self, many * times, lambda: one * times)
                self.assertEqual(one.pictures, single(*numbers))

    def test_so_many_times_with_great_numbers(self):
        for many in (13, 10 ** 6, 999999999):
            refused_as_too_long(self, many, lambda: film(0) * many)
            refused_as_too_long(self, 7 * many, lambda: film(*[0] * 7) * many)

    def test_refused_ticks(self):
        one = film(0, 1, 2)
        calls = [lambda value: one[value], lambda value: one >> value, lambda value: one * value]
        for value in any_values() + [(0, 1), -1, -3, -999999999, True, False]:
            for place, call in enumerate(calls):
                if type(value) is int and value >= (0, 0, 1)[place]:
                    continue
                with self.subTest(place, value=value):
                    refused(self, BadTick, value, lambda: call(value))
        refused(self, BadTick, 0, lambda: one * 0)
        self.assertEqual(one.pictures, single(0, 1, 2))

    def test_shows(self):
        self.assertIs(film(0, 1).shows(film(0, 1)), True)
        self.assertIs(film(0, 1).shows(other=film(0, 1, 0, 1)), True)
        self.assertIs(film(0, 1, 0, 1).shows(film(0, 1)), True)
        self.assertIs(film(0, 1, 0, 1).shows(film(0, 1, 0, 1, 0, 1)), True)
        self.assertIs(film(0, 0).shows(film(0, 0, 0)), True)
        self.assertIs(film(0).shows(film(*[0] * 12)), True)
        self.assertIs(film(0, 1).shows(film(1, 0)), False)
        self.assertIs(film(0, 1).shows(film(0)), False)
        self.assertIs(film(0).shows(film(0, 1)), False)
        self.assertIs(film(*[0] * 11, 1).shows(film(*[0] * 11)), False)
        self.assertIs(film(*[0] * 11).shows(film(*[0] * 11, 1)), False)
        self.assertIs(film(*[0] * 12).shows(film(*[0] * 11, 1)), False)

    def test_shows_as_at_all_ticks(self):
        made = [film(*numbers) for many in range(1, 5) for numbers in itertools.product((0, 1), repeat=many)]
        made += [film(*([0, 1, 1] * 4)), film(*([0] * 5)), film(*([0, 1] * 3))]
        for one, other in itertools.product(made, repeat=2):
            same = all(lit(one, tick) == lit(other, tick) for tick in range(144))
            with self.subTest(one=one.pictures, other=other.pictures):
                self.assertIs(one.shows(other), same)
                self.assertIs(one == other, len(one) == len(other) and same)
                self.assertIs(one != other, not (len(one) == len(other) and same))

    def test_equal(self):
        self.assertTrue(film(0, 1) == film(0, 1))
        self.assertFalse(film(0, 1) == film(0, 1, 0, 1))
        self.assertFalse(film(0, 1) == film(1, 0))
        self.assertTrue(film(0, 1) == film(1, 0) >> 1)
        self.assertFalse(Film((Picture(board()),)) == Film((Picture(Board(("oo.", "ooo"))),)))

    def test_equal_to_nothing_else(self):
        one = Film((Picture(Board(("oo", "oo"))),))
        for value in [one.pictures, one.pictures[0], one.board, list(one.pictures), film(0)] + any_values():
            with self.subTest(value=value):
                self.assertIs(one == value, False)
                self.assertIs(value == one, False)
                self.assertIs(one != value, True)

    def test_another_board(self):
        one, other = film(0, 1), Film((Picture(Board(("oo.", "ooo"))),) * 12)
        for place, call in enumerate([lambda x, y: x + y, lambda x, y: x.shows(y), lambda x, y: x.shows(other=y)]):
            with self.subTest(place):
                # The board is asked for ahead of the length.
                refused(self, OtherBoard, other, lambda: call(one, other))
                refused(self, OtherBoard, one, lambda: call(other, one))
        self.assertEqual(one, film(0, 1))

    def test_operators_take_equal_boards_made_anew(self):
        self.assertEqual(len(film(0) + film(1)), 2)
        self.assertIsNot(film(0).board, film(1).board)


class RunningTest(unittest.TestCase):
    def check(self, one, strip):
        made = running(one, strip)
        self.assertEqual(made.board, one)
        self.assertEqual(len(made), len(strip))
        for tick, picture in enumerate(made.pictures):
            dots = [dot for dot in one.dots if dot[0] in strip[(dot[1] + tick) % len(strip)]]
            self.assertEqual(picture.dots, tuple(dots))

    def test_all_lengths(self):
        generator = random.Random(1)
        for one in small_boards():
            for many in range(1, 13):
                strip = tuple(
                    tuple(row for row in range(one.height) if generator.random() < 0.4) for _ in range(many)
                )
                with self.subTest(one.rows, strip=strip):
                    self.check(one, strip)

    def test_dark_and_full_columns(self):
        for one in small_boards():
            every = tuple(range(one.height))
            for strip in (((),), ((),) * 12, (every,), (every,) * 12, ((), every), ((0,),)):
                self.check(one, strip)

    def test_runs_to_the_left(self):
        made = running(board=Board(("oooo",)), strip=((0,), (), ()))
        self.assertEqual([picture.rows for picture in made.pictures], [("#oo#",), ("oo#o",), ("o#oo",)])

    def test_refused_strips(self):
        wrong = [
            (), ((0,),) * 13, [(0,)], ([0],), (0,), 0, None, ((2,),), ((-1,),), ((1, 0),), ((0, 0),), ((True,),), ((0, True),),
            ((0,), None), ((0,), 1), (("0",),), ("0",), "0", {0: (0,)}, (((0,),),), ((0,), [0]), ((None,),),
            ((0, 1, 2),), board(), (board(),), ((board(),),), ((),) * 13, ((0,), (0, 1), (5,)),
        ]
        for strip in wrong:
            with self.subTest(strip=strip):
                before = copy.deepcopy(strip)
                refused(self, BadStrip, strip, lambda: running(board(), strip))
                refused(self, BadStrip, strip, lambda: running(board=board(), strip=strip))
                self.assertEqual(strip, before)

    def test_any_value_is_refused(self):
        for value in any_values():
            if value in (((),), ((0,),)) and isinstance(value[0], tuple):
                continue
            with self.subTest(value=value):
                refused(self, BadStrip, value, lambda: running(Board(("oo", "oo")), value))

    def test_numbers_are_those_of_rows(self):
        self.check(Board(("o",) * 10), ((9,), (0,)))
        self.check(Board(("o" * 10,)), ((0,),))
        strip = ((1,),)
        refused(self, BadStrip, strip, lambda: running(Board(("o" * 10,)), strip))


class ShownTest(unittest.TestCase):
    def test_against_the_words(self):
        generator = random.Random(2)
        for _ in range(200):
            one = any_board(generator, generator.randint(1, 4), generator.randint(1, 4), 0.2)
            made = any_film(generator, one, generator.randint(1, 12), 0.6)
            looks = tuple(sorted(generator.sample(range(20), generator.randint(1, 12))))
            wires = any_wires(generator, one, 0.3)
            found = shown(made, looks, dead_from(Board(one.rows), wires))
            self.assertEqual(found, seen_of(made, looks, [wires] * len(looks)))
            self.assertTrue(all(type(pair) is tuple for pair in found))

    def test_far_ticks(self):
        made = film(0, 1, 2, 3, 2, 1, 0)
        found = shown(film=made, looks=tuple(sorted(FAR)), dead=Dead(board()))
        self.assertEqual(found, tuple((tick, made.pictures[tick % 7]) for tick in sorted(FAR)))

    def test_one_and_twelve_looks(self):
        self.assertEqual(shown(film(0), (0,), Dead(board())), ((0, film(0)[0]),))
        self.assertEqual(len(shown(film(0), tuple(range(12)), Dead(board()))), 12)
        looks = tuple(range(13))
        refused(self, BadLooks, looks, lambda: shown(film(0), looks, Dead(board())))

    def test_refused_looks(self):
        wrong = [
            (), (1, 0), (0, 0), (-1,), (-1, 0), [0], (True,), (False,), (0, True), (None,), ("0",), (0, "1"), 0, None, "0",
            (0, [1]), ((0,),), {0: 1}, (board(),), (0, board()), tuple(range(13)), (0, 1, 1), (0, 2, 1),
        ]
        other = Dead(Board(("oo.", "ooo")))
        for looks in wrong:
            with self.subTest(looks=looks):
                refused(self, BadLooks, looks, lambda: shown(film(0), looks, Dead(board())))
                # The looks are asked for ahead of the board.
                refused(self, BadLooks, looks, lambda: shown(film(0), looks, other))

    def test_another_board(self):
        for other in (Dead(Board(("oo.", "ooo"))), Dead(~board(), (0,)), Dead(Board(("o",)))):
            refused(self, OtherBoard, other, lambda: shown(film(0), (0,), other))
            refused(self, OtherBoard, other, lambda: shown(film=film(0), looks=(0,), dead=other))

    def test_example_of_drawn_pictures(self):
        one = Board(("ooo", "ooo"))
        made = Film((drawn(one, ("###", "#oo")), drawn(one, ("ooo", "###"))))
        found = shown(made, (0, 3), Dead(one, (1,), (0,)))
        self.assertEqual([(tick, picture.rows) for tick, picture in found], [(0, ("o##", "ooo")), (3, ("ooo", "ooo"))])

    def test_nothing_is_changed(self):
        generator = random.Random(3)
        made = Film(tuple(any_picture(generator, board(), 0.5) for _ in range(3)))
        dead, looks = Dead(board(), (0,), (1,)), (0, 4)
        before = copy.deepcopy((vars(made), vars(dead), looks))
        self.assertEqual(shown(made, looks, dead), shown(made, looks, dead))
        self.assertEqual((vars(made), vars(dead), looks), before)


if __name__ == "__main__":
    unittest.main()
