"""What was seen as a text, and read back."""

import random
import unittest

from tests import brute, plain_watch
from tests.plain_book import other_characters, other_lines
from tests.values import any_values, refused
from wiresindark.boards import Board
from wiresindark.books import Book
from wiresindark.errors import BadSeen, BadText
from wiresindark.films import Film
from wiresindark.pictures import Dead, Picture, drawn
from wiresindark.texts import read_seen, show_seen
from wiresindark.watch import Watch

BOARD = Board(("oo.", "ooo"))
DARK = Picture(BOARD)
TEXT = "look 0\n  #o.\n  oo#\nlook 7\n  oo.\n  ooo"
SEEN = ((0, drawn(BOARD, ("#o.", "oo#"))), (7, DARK))
CHARACTERS = "look#. 0129\n\t"


def some_seen(generator):
    board = brute.any_board(generator, generator.randint(1, 4), generator.randint(1, 4), generator.choice((0, 0.3)))
    ticks = sorted(generator.sample(range(generator.choice((12, 30, 10 ** 9))), generator.choice((1, 2, 3, 12))))
    return board, tuple((tick, brute.any_picture(generator, board, 0.5)) for tick in ticks)


class ShowTest(unittest.TestCase):
    def test_line_by_line(self):
        self.assertEqual(show_seen(SEEN), TEXT)
        self.assertEqual(show_seen(seen=SEEN[1:]), "look 7\n  oo.\n  ooo")
        self.assertEqual(show_seen(((999999999, Picture(Board(("o",)), ((0, 0),))),)), "look 999999999\n  #")

    def test_against_the_words(self):
        generator = random.Random(270)
        for _ in range(150):
            board, seen = some_seen(generator)
            lines = []
            for tick, picture in seen:
                lines += [f"look {tick}"] + ["  " + row for row in picture.rows]
            text = show_seen(seen)
            self.assertEqual(text.split("\n"), lines)
            again = read_seen(board, text)
            self.assertEqual(again, seen)
            self.assertTrue(type(again) is tuple and all(type(pair) is tuple for pair in again))
            self.assertEqual(read_seen(Board(board.rows), text), seen)
            self.assertEqual(show_seen(again), text)

    def test_refused(self):
        other = Picture(Board(("oo", "oo")))
        wrong = [
            (), ((0, DARK),) * 2, ((1, DARK), (0, DARK)), tuple((tick, DARK) for tick in range(13)), [(0, DARK)], ([0, DARK],),
            (0, DARK), ((True, DARK),), ((-1, DARK),), ((0, DARK), (1, other)), ((0, other), (1, DARK)), ((0, DARK, 0),), ((0,),),
            ((0, None),), ((0, DARK.rows),), ((0, Dead(BOARD)),), ((0, BOARD),), ((0, DARK), None), (None, (0, DARK)), ((None, DARK),),
            (DARK,), ((DARK, 0),), {0: DARK}, ((0, DARK), (1, ())), ((0, DARK), (1, DARK), (1, DARK)), TEXT, ((0, Film((DARK,))),),
        ]
        for value in wrong + any_values():
            refused(self, BadSeen, value, lambda: show_seen(value))
            refused(self, BadSeen, value, lambda: show_seen(seen=value))

    def test_twelve(self):
        seen = tuple((tick, DARK) for tick in range(12))
        self.assertEqual(len(show_seen(seen).split("\n")), 36)
        self.assertEqual(read_seen(BOARD, show_seen(seen)), seen)

    def test_equal_boards_made_anew(self):
        seen = ((0, Picture(Board(BOARD.rows))), (1, Picture(Board(BOARD.rows))))
        self.assertEqual(show_seen(seen), "look 0\n  oo.\n  ooo\nlook 1\n  oo.\n  ooo")

    def test_ticks_that_a_watch_came_to(self):
        """Ticks of more figures than an argument may have are read back, too."""
        watch = Watch(Book("board\n  o\nsign i\n  #\nfilm a\n  run i 1"), "a")
        for _ in range(12):
            watch.pass_by(999999999)
            watch.look()
        text = show_seen(watch.seen)
        self.assertEqual(text.split("\n")[-2], "look 11999999988")
        self.assertEqual(read_seen(watch.book.board, text), watch.seen)


class ReadTest(unittest.TestCase):
    def bad(self, number, text, board=BOARD):
        with self.subTest(text=text):
            with self.assertRaises(BadText) as caught:
                read_seen(board, text)
            self.assertEqual(caught.exception.value, number)
            self.assertIs(type(caught.exception.value), int)
            self.assertEqual(plain_watch.bad_line_of_seen(board.rows, text) if isinstance(text, str) else 0, number)

    def test_no_string(self):
        for value in any_values():
            if not isinstance(value, str):
                self.bad(0, value)
        with self.assertRaises(BadText) as caught:
            read_seen(text=None, board=BOARD)
        self.assertEqual(caught.exception.value, 0)

    def test_any_string(self):
        for value in any_values():
            if isinstance(value, str):
                self.bad(1, value)

    def test_good(self):
        self.assertEqual(read_seen(BOARD, TEXT), SEEN)
        self.assertEqual(read_seen(text=TEXT, board=BOARD), SEEN)

    def test_the_line_of_a_look(self):
        wrong = ["", "look", "look ", "look  0", " look 0", "look 0 ", "look 00", "look 01", "look -1", "look +1", "look x", "Look 0",
                 "look 0 0", "looks 0", "look\t0", "look 0\r", "  #o.", "  look 0", "seen 0", "look 1.", "look \u0660", "look 0x1",
                 "look 1_0", "look \u00b2"]
        for line in wrong:
            self.bad(1, line + "\n  #o.\n  oo#")
            self.bad(4, "look 0\n  #o.\n  oo#\n" + line + "\n  #o.\n  oo#")
            self.bad(4, "look 0\n  #o.\n  oo#\n" + line)

    def test_the_rows(self):
        wrong = ["", "  ", "#o.", " #o.", "   #o.", "  #o", "  #o. ", "  #oo", "  #o#", "  .o.", "  #..", "  #o.o", "  #O.", "  #x.", "  oo#",
                 "look 1", "\t#o.", "  #o.\r", "  # o."]
        for row in wrong:
            self.bad(2, "look 0\n" + row + "\n  oo#")
            self.bad(5, "look 0\n  oo.\n  ooo\nlook 3\n" + row + "\n  ooo")
        for row in ("", "  ", "ooo", "  oo", "  oo.", "  .oo", "  oooo", "  #.#", " ooo", "   oo", "look 1"):
            self.bad(3, "look 0\n  oo.\n" + row)
            self.bad(6, "look 0\n  oo.\n  ooo\nlook 3\n  oo.\n" + row + "\nlook 4")

    def test_too_many_rows(self):
        self.bad(4, "look 0\n  #o.\n  oo#\n  ooo")
        self.bad(4, "look 0\n  #o.\n  oo#\n  ooo\nlook 1\n  #o.\n  oo#")

    def test_the_end(self):
        lines = TEXT.split("\n")
        for many in range(1, len(lines)):
            text = "\n".join(lines[:many])
            if many != 3:
                self.bad(many + 1, text)
            self.bad(many + 1, text + "\n")
        self.bad(7, TEXT + "\n")
        self.bad(7, TEXT + "\n\n")
        self.bad(1, "\n" + TEXT)
        self.bad(1, "")

    def test_ticks_ascend(self):
        rows = "\n  oo.\n  ooo"
        self.bad(4, f"look 0{rows}\nlook 0{rows}")
        self.bad(4, f"look 5{rows}\nlook 4{rows}")
        self.bad(7, f"look 5{rows}\nlook 9{rows}\nlook 9{rows}")
        self.bad(7, f"look 5{rows}\nlook 10{rows}\nlook 9{rows}")
        self.bad(4, f"look 999999999{rows}\nlook 99999999{rows}")
        self.assertEqual(read_seen(BOARD, f"look 9{rows}\nlook 10{rows}"), ((9, DARK), (10, DARK)))

    def test_twelve_and_thirteen_looks(self):
        looks = [f"look {tick}\n  oo.\n  ooo" for tick in range(14)]
        self.assertEqual(len(read_seen(BOARD, "\n".join(looks[:12]))), 12)
        self.bad(37, "\n".join(looks[:13]))
        self.bad(37, "\n".join(looks))
        self.bad(37, "\n".join(looks[:12]) + "\nlook 12")
        self.bad(37, "\n".join(looks[:12]) + "\n")

    def test_changed_texts(self):
        generator = random.Random(271)
        found = []
        for _ in range(600):
            board, seen = some_seen(generator)
            text = other_lines(generator, show_seen(seen))
            if text and generator.random() < 0.4:
                text = other_characters(generator, text, CHARACTERS)
            number = plain_watch.bad_line_of_seen(board.rows, text)
            found.append(number)
            if number is None:
                self.assertEqual(show_seen(read_seen(board, text)), text)
            else:
                self.bad(number, text, board)
        self.assertGreater(min(found.count(None), found.count(2), found.count(3)), 15)

    def test_another_board(self):
        self.bad(2, TEXT, Board(("oo", "oo")))
        self.bad(3, TEXT, Board(("oo.", "o.o")))
        self.bad(4, TEXT, Board(("oo.", "ooo", "o..")))
        self.bad(2, TEXT, ~BOARD)
        board = Board(("oo.o", "oooo"))
        seen = ((2, Picture(board, ((0, 3),))),)
        self.assertEqual(show_seen(read_seen(board, show_seen(seen))), show_seen(seen))
        with self.assertRaises(BadText):
            read_seen(BOARD, show_seen(seen))


if __name__ == "__main__":
    unittest.main()
