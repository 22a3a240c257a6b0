"""Values of every kind that the document calls any value, made anew by each call."""

from wiresindark import errors
from wiresindark.boards import Board
from wiresindark.books import Book
from wiresindark.desk import Desk
from wiresindark.explaining import Causes
from wiresindark.films import Film
from wiresindark.pictures import Dead, Picture
from wiresindark.watch import Watch

NAMES = (
    "BadBoard BadDots BadRows BadColumns OtherBoard BadPictures BadTick TooLong BadStrip BadLooks BadSeen BadWires "
    "NoCause BadNumber BadFilms BadParts BadOffers NotFull BadBook NoFilm BadWire NoChange SeenAlready NothingSeen "
    "NothingToUndo NothingToRedo BadText BadJournal BadLine"
).split()


def nested(inner, wrap, depth=20):
    for _ in range(depth):
        inner = wrap(inner)
    return inner


def objects():
    board = Board(("oo", "o."))
    book = Book("board\n  oo\n  o.\nfilm a\n  dark 1")
    return [
        board,
        Picture(board),
        Picture(board, ((0, 0),)),
        Dead(board),
        Dead(board, (0,), (1,)),
        Film((Picture(board),)),
        Film((Picture(board), Picture(board, ((0, 0),)))),
        Causes(Film((Picture(board),)), ((0, Picture(board)),)),
        book,
        Watch(book, "a"),
        Desk(Watch(book, "a")),
        errors.WireError(0),
        errors.BadDots(()),
    ]


def plain_values():
    return [
        0, 1, -1, 2, 9, 10, 999999999, True, False, None,
        "", "o", "oo", "#", "row", "column", "rows\n", "a", "b", "0", "look", "board", "abcdefgh",
        (), (0,), (1,), (True,), (False,), (None,), ("",), ("o",), (0, 0), (0, 0, 0), (True, False), ("row", 0),
        ("row", True), ((),), (([],),), ({},), ((0, 0),), ((False, False),), ((0, True),), ([0, 0],), ("o", 0), (0, "o"),
        [], [0], ["o"], [0, 0], ["row", 0], [(0, 0)], [[]], [{}],
        {}, {0: 0}, {"rows": ("o",)}, {(0, 0): [0]}, {"row": 0},
        nested(0, lambda inner: (inner,)), nested(0, lambda inner: [inner]), nested(0, lambda inner: {0: inner}),
    ]


def any_values():
    made = objects()
    wrapped = [wrap(thing) for thing in made for wrap in (lambda x: (x,), lambda x: [x], lambda x: {0: x})]
    pairs = [(thing, 0) for thing in made] + [(0, thing) for thing in made]
    return plain_values() + made + wrapped + pairs


def small_boards():
    """Boards of unlike forms: full and not, high, wide, of the least and the greatest size."""
    return [
        Board(("o",)),
        Board(("oo", "o.")),
        Board((".o", "o.")),
        Board(("ooo", "ooo", "oo.")),
        Board(("oo.o", ".oo.")),
        Board(("o" * 10,)),
        Board(("o",) * 10),
        Board(("o" * 10,) * 10),
        Board(("o." * 5, ".o" * 5) * 5),
    ]


def refused(test, error, value, call):
    """call raises error, with value itself in it."""
    with test.assertRaises(errors.WireError) as caught:
        call()
    test.assertIs(caught.exception.__class__, error)
    test.assertIs(caught.exception.value, value)
