"""Wrong values for each parameter that accepts any value: alone, and several at once."""

import itertools
import re
import unittest

from tests.values import any_values, refused
from wiresindark.boards import Board
from wiresindark.errors import (
    BadFilms, BadLooks, BadNumber, BadOffers, BadParts, BadPictures, BadSeen, BadStrip, BadTick, BadWires, NoCause, OtherBoard,
)
from wiresindark.explaining import Causes, explained, shows_explained, stair
from wiresindark.films import Film, running, shown
from wiresindark.mixing import mixed, shows_mixed
from wiresindark.pictures import Dead, Picture
from wiresindark.probes import probes
from wiresindark.strips import strips_alike
from wiresindark.telling import expected, least_dead, surely, told
from wiresindark.watching import choose, clear, mixups, most_dead, sure, wait

BOARD = Board(("oo", "oo"))
OTHER = Board(("oo", "o."))
FILM = Film((Picture(BOARD, BOARD.dots), Picture(BOARD, ((0, 0),))))
OTHER_FILM = Film((Picture(OTHER),))
SEEN = ((0, Picture(BOARD, ((0, 0),))), (1, Picture(BOARD)))
ALIVE = (("column", 1),)


def is_number(value, least=0, most=10 ** 9):
    return type(value) is int and least <= value <= most


def is_row_of(value, good, least, most):
    return type(value) is tuple and least <= len(value) <= most and all(map(good, value))


def ascends(value):
    return all(one < other for one, other in zip(value, value[1:]))


def are_looks(value):
    return is_row_of(value, is_number, 1, 12) and ascends(value)


def are_seen(value):
    if not is_row_of(value, lambda pair: type(pair) is tuple and len(pair) == 2, 1, 12):
        return False
    if not are_looks(tuple(pair[0] for pair in value)):
        return False
    return all(type(pair[1]) is Picture and pair[1].board == BOARD for pair in value)


def are_films(value):
    if not is_row_of(value, lambda film: type(film) is Film, 1, 6) or len({film.board.rows for film in value}) > 1:
        return False
    return sum(len(film.pictures) for film in value) <= 24


def are_pictures(value):
    good = is_row_of(value, lambda picture: type(picture) is Picture, 1, 12)
    return good and len({picture.board.rows for picture in value}) == 1


def is_strip(value):
    return is_row_of(value, lambda column: is_row_of(column, lambda n: is_number(n, 0, 1), 0, 2) and ascends(column), 1, 12)


def are_wires(value):
    good = is_row_of(value, lambda wire: type(wire) is tuple and wire in BOARD.wires and type(wire[1]) is int, 0, 4)
    return good and ascends(value)


def is_name(value):
    return type(value) is str and re.fullmatch("[a-z]{1,8}", value) is not None


def are_parts(value):
    """For FILM alone."""
    return value is None or is_row_of(value, lambda names: is_row_of(names, is_name, 2, 2), 1, 1)


def are_priced(value):
    good = is_row_of(value, lambda pair: is_row_of(pair, is_number, 2, 2) and pair[1] <= 9, 1, 5)
    return good and ascends(tuple(tick for tick, _ in value))


def are_probes(value):
    return is_row_of(value, lambda picture: type(picture) is Picture and picture.board == BOARD, 1, 6)


def some_seen():
    """Values that are nearly what can have been seen."""
    dark = Picture(BOARD)
    good = (0, dark)
    return [
        (), (good,) * 2, ((1, dark), (0, dark)), tuple((tick, dark) for tick in range(13)), [good], ([0, dark],), good,
        ((True, dark),), ((0, dark), (True, dark)), ((False, dark),), ((-1, dark),), ((None, dark),), (("0", dark),),
        ((0, dark, 0),), ((0,),), ((0, ()),), ((0, dark.rows),), ((0, None),), ((0, Dead(BOARD)),), ((0, BOARD),),
        ((0, FILM),), (good, (1, Picture(OTHER))), ((0, Picture(OTHER)), (1, dark)), ((0, Picture(Board(("ooo", "ooo")))),),
        (good, None), (good, good[1]), (good, (1, [])), ((0, (dark,)),), ((dark, 0),), (good, (1, dark), (1, dark)),
        {0: dark}, ((0, dark), (0, dark)), (((0,), dark),), (([], dark),), (good, [1, dark]),
    ]


def some_wires():
    """Values that are nearly ascending tuples of wires."""
    return [
        (("row", 0), ("column", 0)), (("row", 0), ("row", 0)), (("row", 1), ("row", 0)), (("row", 2),), (("column", 2),),
        (("row", -1),), (("row", True),), (("row", False),), (("column", True),), (("rows", 0),), (("", 0),), ((0, "row"),),
        (["row", 0],), [("row", 0)], ("row", 0), (("row", 0, 0),), (("row",),), (("row", "0"),), (("row", (0,)),), ("row",),
        (("row", 0), None), (("column", 0), ("row", 0), ("row", True)), (("column", 0), []), ((0, 0),), "row",
        {("row", 0): True}, (Dead(BOARD, (0,)),), Dead(BOARD), (([], 0),), ((("row",), 0),), (("row", None),),
    ]


def some_films():
    """Values that are nearly films to choose from."""
    twelve = Film((Picture(BOARD),) * 12)
    return [
        (), (FILM,) * 7, [FILM], FILM, (FILM, OTHER_FILM), (OTHER_FILM, FILM), (FILM, None), (None, FILM), (FILM, FILM.pictures),
        FILM.pictures, (FILM, Picture(BOARD)), (twelve, twelve, Film((Picture(BOARD),))), (twelve,) * 3, ((FILM,),), {0: FILM},
        (FILM, FILM, FILM, OTHER_FILM), (FILM, [FILM]), (BOARD,), (FILM, 0), (FILM, True), (Film((Picture(BOARD),) * 5),) * 5,
    ]


def some_numbers(most):
    return [most + 1, most + 2, -1, -most, True, False, None, str(most), (1,), [1], 999999999, -999999999]


def some_looks():
    return [
        (), (0, 0), (1, 0), (-1,), (-1, 0), (True,), (0, True), (False, 1), (False,), [0], (None,), ("0",), (0, "1"), (0, (1,)),
        tuple(range(13)), (0, 1, 1), (0, 2, 1), (0, [1]), {0: 0}, 0, (0, None),
    ]


def some_ticks():
    return [-1, -999999999, True, False, None, "0", (0,), [0], {}, Picture(BOARD)]


def some_strips():
    return [(), ((0,),) * 13, [(0,)], ([0],), ((2,),), ((1, 0),), ((0, 0),), ((True,),), ((False,),), (0,), ((0,), None)]


def some_parts():
    """Values that are nearly parts."""
    return [
        (), (("a",),), (("a", "b", "c"),), (("a", "b"), ("a", "b")), (("a", "b"), None), [("a", "b")], (["a", "b"],), ("a", "b"),
        ("ab",), "ab", (("a", "B"),), (("a", ""),), (("", "a"),), (("abcdefghi", "a"),), (("a", 1),), (("a", None),), (("a", True),),
        (("a", ("b",)),), (("a", "b c"),), (("a", "b\n"),), (("a", "b1"),), (("a", "\u00e9"),), ((("a",), ("b",)),), {0: ("a", "b")},
        ({"a": 0, "b": 0},), (None,), ((),), ((), ("a", "b")), (("a", "_"),), (("a", "-"),), (("a", []),), False, (("a", "b"), ()),
    ]


def some_priced():
    """Values that are nearly offers of looks."""
    return [
        (), tuple((tick, 1) for tick in range(6)), ((0, 1), (0, 2)), ((0, 1), (0, 1)), ((1, 0), (0, 0)), ((0, 10),), ((0, -1),),
        ((-1, 0),), ((True, 0),), ((0, True),), ((0, False),), ((False, 0),), ((0, 1), (True, 2)), ((0, None),), ((None, 0),), (("0", 0),),
        ((0, "0"),), ((0,),), ((0, 0, 0),), ([0, 0],), [(0, 0)], (0, 0), {0: 0}, ({0: 0},), ((0, 1), None), ((0, 1), (1,)), ((0, (1,)),),
        (((0,), 1),), ((0, 1), (1, 10)), ((0, 1), (2, 1), (1, 1)), ((0, 999999999),), ((0, 1), 1), ((0, []),), (([], 0),),
    ]


def some_probes():
    """Values that are nearly offers of pictures."""
    dark = Picture(BOARD)
    return [
        (), (dark,) * 7, [dark], dark, (dark, Picture(OTHER)), (Picture(OTHER),), (dark, None), (None, dark), ((dark,),), dark.dots,
        (FILM,), FILM.pictures + (FILM,), {0: dark}, (Dead(BOARD),), (dark, Dead(BOARD)), (dark.rows,), ((0, dark),), (BOARD,), (dark, [dark]),
    ]


def some_pictures():
    picture = Picture(BOARD)
    return [(), (picture,) * 13, [picture], (picture, Picture(OTHER)), (picture, None), (FILM,), ((picture,),), picture]


# For each function its good arguments, and in the order in which they are refused those that accept any value: with the
# error, what is good, and what nearly is.
SEEN_KIND = (BadSeen, are_seen, some_seen)
WIRES_KIND = (BadWires, are_wires, some_wires)
FILMS_KIND = (BadFilms, are_films, some_films)
LOOKS_KIND = (BadLooks, are_looks, some_looks)
TWENTY_KIND = (BadNumber, lambda value: is_number(value, 0, 20), lambda: some_numbers(20))
FOUR_KIND = (BadNumber, lambda value: is_number(value, 0, 4), lambda: some_numbers(4))
TICK_KIND = (BadTick, is_number, some_ticks)
THREE_KIND = (BadNumber, lambda value: is_number(value, 0, 3), lambda: some_numbers(3))
PARTS_KIND = (BadParts, are_parts, some_parts)
PRICED_KIND = (BadOffers, are_priced, some_priced)
PROBES_KIND = (BadOffers, are_probes, some_probes)
STRIP_KIND = (BadStrip, is_strip, some_strips)
PARTS = (("a", "abcdefgh"),)
VALUE = ("explained", Dead(BOARD, (1,)), ())
CALLS = [
    (explained, {"film": FILM, "seen": SEEN, "alive": ALIVE, "dying": False}, {"seen": SEEN_KIND, "alive": WIRES_KIND}),
    (shows_explained, {"film": FILM, "seen": SEEN, "value": VALUE, "alive": ALIVE, "dying": True},
     {"seen": SEEN_KIND, "alive": WIRES_KIND}),
    (stair, {"film": FILM, "seen": SEEN}, {"seen": SEEN_KIND}),
    (told, {"films": (FILM,), "seen": SEEN, "k": 1, "dying": True}, {"films": FILMS_KIND, "seen": SEEN_KIND, "k": TWENTY_KIND}),
    (least_dead, {"films": (FILM,), "seen": SEEN}, {"films": FILMS_KIND, "seen": SEEN_KIND}),
    (surely, {"films": (FILM,), "seen": SEEN, "k": 1}, {"films": FILMS_KIND, "seen": SEEN_KIND, "k": TWENTY_KIND}),
    (expected, {"films": (FILM,), "seen": SEEN, "k": 1, "tick": 4},
     {"films": FILMS_KIND, "seen": SEEN_KIND, "k": TWENTY_KIND, "tick": TICK_KIND}),
    (mixed, {"one": FILM, "other": FILM, "looks": (0, 2), "k": 1}, {"looks": LOOKS_KIND, "k": FOUR_KIND}),
    (shows_mixed, {"one": FILM, "other": FILM, "looks": (0,), "k": 1, "value": ("mixed", Dead(BOARD), Dead(BOARD))},
     {"looks": LOOKS_KIND, "k": FOUR_KIND}),
    (shown, {"film": FILM, "looks": (0,), "dead": Dead(BOARD)}, {"looks": LOOKS_KIND}),
    (running, {"board": BOARD, "strip": ((0,), ())}, {"strip": STRIP_KIND}),
    (sure, {"films": (FILM,), "looks": (0, 2), "k": 1, "parts": PARTS},
     {"films": FILMS_KIND, "looks": LOOKS_KIND, "k": FOUR_KIND, "parts": PARTS_KIND}),
    (wait, {"films": (FILM,), "k": 1, "parts": PARTS}, {"films": FILMS_KIND, "k": FOUR_KIND, "parts": PARTS_KIND}),
    (most_dead, {"films": (FILM,), "looks": (0, 2), "parts": PARTS},
     {"films": FILMS_KIND, "looks": LOOKS_KIND, "parts": PARTS_KIND}),
    (choose, {"films": (FILM,), "offers": ((0, 1), (3, 9)), "k": 1, "parts": PARTS},
     {"films": FILMS_KIND, "offers": PRICED_KIND, "k": FOUR_KIND, "parts": PARTS_KIND}),
    (mixups, {"films": (FILM,), "looks": (0, 2), "k": 1}, {"films": FILMS_KIND, "looks": LOOKS_KIND, "k": FOUR_KIND}),
    (clear, {"films": (FILM,), "looks": (0, 2), "k": 1}, {"films": FILMS_KIND, "looks": LOOKS_KIND, "k": FOUR_KIND}),
    (strips_alike, {"board": BOARD, "strip": ((0,), (0, 1)), "second": ((),), "k": 1},
     {"strip": STRIP_KIND, "second": STRIP_KIND, "k": FOUR_KIND}),
    (probes, {"board": BOARD, "offers": FILM.pictures, "k": 1}, {"offers": PROBES_KIND, "k": THREE_KIND}),
    (Film, {"pictures": FILM.pictures}, {"pictures": (BadPictures, are_pictures, some_pictures)}),
]


def bad_values(kind, few=False):
    _, good, nearly = kind
    found = nearly() + any_values() if not few else nearly()[:6] + any_values()[6:60:9]
    return [value for value in found if not good(value)]


class RefusalTest(unittest.TestCase):
    def test_good_arguments(self):
        for call, good, kinds in CALLS:
            with self.subTest(call.__name__):
                call(**good)
                for name, (_, is_good, nearly) in kinds.items():
                    self.assertTrue(is_good(good[name]))
                    self.assertFalse(any(is_good(value) for value in nearly()), name)

    def test_alone(self):
        for call, good, kinds in CALLS:
            for name, kind in kinds.items():
                for value in bad_values(kind):
                    with self.subTest(call.__name__, name=name, value=value):
                        before = list(value) if isinstance(value, (list, dict, tuple)) else None
                        refused(self, kind[0], value, lambda: call(**{**good, name: value}))
                        self.assertTrue(before is None or before == list(value))

    def test_two_at_once(self):
        for call, good, kinds in CALLS:
            for one, other in itertools.combinations(kinds, 2):
                pairs = itertools.product(bad_values(kinds[one], True), bad_values(kinds[other], True))
                for value, second in pairs:
                    with self.subTest(call.__name__, value=value, second=second):
                        refused(self, kinds[one][0], value, lambda: call(**{**good, other: second, one: value}))

    def test_all_at_once(self):
        for call, good, kinds in CALLS:
            wrong = {name: bad_values(kind, True)[0] for name, kind in kinds.items()}
            first = list(kinds)[0]
            refused(self, kinds[first][0], wrong[first], lambda: call(**{**good, **wrong}))

    def test_causes(self):
        good = {"film": FILM, "seen": ((0, Picture(BOARD)),), "alive": ALIVE, "dying": False}
        self.assertEqual(len(Causes(**{**good, "alive": ()})), 2)
        for name, kind in (("seen", SEEN_KIND), ("alive", WIRES_KIND)):
            for value in bad_values(kind):
                with self.subTest(name, value=value):
                    refused(self, kind[0], value, lambda: Causes(**{**good, name: value}))
        for seen, alive in itertools.product(bad_values(SEEN_KIND, True), bad_values(WIRES_KIND, True)):
            refused(self, BadSeen, seen, lambda: Causes(FILM, seen, alive=alive))
        # What nothing explains is refused last of all.
        stray = ((1, Picture(BOARD, BOARD.dots)),)
        for alive in bad_values(WIRES_KIND):
            refused(self, BadWires, alive, lambda: Causes(FILM, stray, alive=alive))
        with self.assertRaises(NoCause) as caught:
            Causes(FILM, stray)
        self.assertEqual(caught.exception.value, ("stray", 1, (0, 1)))

    def test_another_board_ahead_of_looks_and_number(self):
        value = ("mixed", Dead(BOARD), Dead(BOARD))
        for looks, k in ((((0,), 1), ((), 1), ((0,), 5), ((), 5), (None, None), (True, True))):
            refused(self, OtherBoard, OTHER_FILM, lambda: mixed(FILM, OTHER_FILM, looks, k))
            refused(self, OtherBoard, FILM, lambda: mixed(OTHER_FILM, FILM, looks, k))
            refused(self, OtherBoard, OTHER_FILM, lambda: shows_mixed(FILM, OTHER_FILM, looks, k, value))
        larger = Film((Picture(Board(("oo", "oo", "oo"))),))
        refused(self, OtherBoard, larger, lambda: mixed(FILM, larger, (0,), 1))

    def test_looks_ahead_of_the_board_of_the_dead(self):
        dead = Dead(OTHER)
        for looks in some_looks():
            refused(self, BadLooks, looks, lambda: shown(FILM, looks, dead))
        refused(self, OtherBoard, dead, lambda: shown(FILM, (0,), dead))

    def test_shows_raises_whatever_the_value(self):
        for value in any_values():
            for seen in some_seen()[:8]:
                refused(self, BadSeen, seen, lambda: shows_explained(FILM, seen, value))
            for alive in some_wires()[:8]:
                refused(self, BadWires, alive, lambda: shows_explained(FILM, SEEN, value, alive=alive))
            for looks in some_looks()[:8]:
                refused(self, BadLooks, looks, lambda: shows_mixed(FILM, FILM, looks, 1, value))
            for k in some_numbers(4)[:8]:
                refused(self, BadNumber, k, lambda: shows_mixed(FILM, FILM, (0,), k, value))

    def test_shows_refuses_no_value(self):
        for value in any_values():
            self.assertIs(shows_explained(FILM, SEEN, value), False)
            self.assertIs(shows_mixed(FILM, FILM, (0,), 1, value), False)

    def test_films_and_seen_of_one_board(self):
        for seen in (((0, Picture(OTHER)),), SEEN + ((2, Picture(OTHER)),)):
            refused(self, BadSeen, seen, lambda: told((FILM,), seen, 1))
            refused(self, BadSeen, seen, lambda: explained(FILM, seen))
        refused(self, BadSeen, SEEN, lambda: told((OTHER_FILM,), SEEN, 1))
        refused(self, BadSeen, SEEN, lambda: stair(OTHER_FILM, SEEN))
        wires = (("column", 2),)
        refused(self, BadWires, wires, lambda: explained(FILM, SEEN, alive=wires))
        wide = Board(("ooo", "ooo"))
        self.assertEqual(explained(Film((Picture(wide),)), ((0, Picture(wide)),), alive=wires)[0], "explained")

    def test_what_is_just_taken(self):
        dark = Picture(BOARD)
        six = (Film((dark,) * 4),) * 6
        twelve = tuple((tick, dark) for tick in range(12))
        far = tuple((999999999 - 12 + tick, dark) for tick in range(1, 13))
        for films in (six, (Film((dark,) * 12),) * 2, (Film((dark,)),)):
            for seen in (twelve, far, twelve[:1]):
                for k in (0, 20):
                    self.assertEqual(len(told(films, seen, k)), sum(map(len, films)))
                    self.assertIsNotNone(surely(films, seen, k))
                    self.assertIsNotNone(expected(films, seen, k, 0))
                    self.assertIsNotNone(expected(films, seen, k, 999999999))
        for k in (0, 4):
            for films in (six, (Film((dark,) * 12),) * 2):
                for parts in (None, tuple(("a",) * len(film) for film in films)):
                    self.assertIsNone(sure(films, (0,), k, parts))
                    self.assertIsNone(sure(films, tuple(range(999999988, 1000000000)), k, parts))
                    self.assertEqual(wait(films, k, parts), (0, None))
                    self.assertEqual(most_dead(films, (0,), parts), (4, None))
                    for many in (1, 5):
                        offers = tuple((tick, 9 * (tick % 2)) for tick in range(many))
                        self.assertEqual(choose(films, offers, k, parts), ("looks", (0,), 0, ()))
                self.assertEqual(len(mixups(films, (0,), k)), len(films) * (len(films) - 1) // 2)
                self.assertEqual(clear(films, (0,), k), (0,))
            self.assertEqual(mixed(six[0], six[0], tuple(range(12)), k)[0], "mixed")
        self.assertEqual(explained(six[0], twelve, alive=BOARD.wires), ("explained", Dead(BOARD), ()))
        self.assertEqual(explained(six[0], twelve, alive=()), ("explained", Dead(BOARD), ()))


if __name__ == "__main__":
    unittest.main()
