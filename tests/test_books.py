"""Books: each form of line, each way in which a line cannot stand where it does, and the pictures that they tell."""

import random
import unittest

from tests import plain_book
from tests.values import any_values, refused
from wiresindark.boards import Board
from wiresindark.books import Book
from wiresindark.errors import BadBook, NoFilm
from wiresindark.films import Film, running
from wiresindark.pictures import Picture

HEAD = ["board", "  ooo", "  ooo"]
SIGN_A = ["sign a", "  #.", "  ##"]
SIGN_B = ["sign b", "  .#.", "  #.#"]
FILM = ["film a", "  dark 1"]
CHARACTERS = "abosfx#.,01239 \n\tA\r"


def text_of(*parts):
    return "\n".join(line for part in parts for line in ([part] if isinstance(part, str) else part))


class Refusals(unittest.TestCase):
    def bad(self, number, *parts):
        text = text_of(*parts)
        with self.subTest(text=text):
            with self.assertRaises(BadBook) as caught:
                Book(text)
            self.assertEqual(caught.exception.value, number)
            self.assertIs(type(caught.exception.value), int)
            self.assertIs(type(caught.exception), BadBook)

    def good(self, *parts):
        return Book(text_of(*parts))


class FormsTest(Refusals):
    def rows(self, book, name):
        return [picture.rows for picture in book[name].pictures]

    def test_no_string(self):
        for value in any_values():
            if not isinstance(value, str):
                with self.assertRaises(BadBook) as caught:
                    Book(value)
                self.assertEqual((caught.exception.value, type(caught.exception.value)), (0, int))
                with self.assertRaises(BadBook) as caught:
                    Book(text=value)
                self.assertEqual(caught.exception.value, 0)

    def test_any_string(self):
        for value in any_values():
            if isinstance(value, str):
                self.bad(2 if value == "board" else 1, value)

    def test_board(self):
        self.bad(1, "")
        for line in ("boards", " board", "board ", "Board", "board\r", "board 2", "  board", "sign a", "film a", "  ooo", "\tboard"):
            self.bad(1, line, HEAD[1:], FILM)
        self.bad(1, HEAD[1:], FILM)
        self.bad(1, "", HEAD, FILM)
        self.bad(2, "board")
        self.bad(2, "board", "")
        self.bad(2, "board", FILM)
        self.bad(2, "board", SIGN_A, FILM)
        self.bad(2, "board", HEAD, FILM)
        for row in (" ooo", "ooo", "   ooo", "  o o", "  ooo ", "  ", "", "  o#o", "  ooO", "  " + "o" * 11, "  0", "\tooo", "  oo\r"):
            self.bad(2, "board", row, HEAD[1:], FILM)
            self.bad(3, "board", "  ooo", row, FILM)
        self.bad(3, "board", "  ooo", "  oo", FILM)
        self.bad(3, "board", "  ooo", "  oooo", FILM)
        self.bad(4, "board", "  ooo", "  ooo", "  oo", FILM)

    def test_ten_and_eleven_rows(self):
        for many in (1, 2, 9, 10):
            board = self.good("board", ["  oo"] * many, FILM).board
            self.assertEqual(board.rows, ("oo",) * many)
        self.bad(12, "board", ["  oo"] * 11, FILM)
        self.bad(12, "board", ["  oo"] * 12, FILM)
        for many in (1, 2, 9, 10):
            self.assertEqual(self.good("board", "  " + "o" * many, FILM).board.width, many)
        self.bad(2, "board", "  " + "o" * 11, FILM)

    def test_not_the_rows_of_a_board(self):
        for rows in (["  ..."], ["  ooo", "  ..."], ["  .oo", "  .oo"], ["  o.", "  o."], ["  ."]):
            self.bad(1, "board", rows, FILM)
            # Only if there is nothing else.
            self.bad(len(rows) + 3, "board", rows, "film a", "  dark 0")
            self.bad(len(rows) + 2, "board", rows, "  ", FILM)
            self.bad(len(rows) + 3, "board", rows, "film a")
            self.bad(len(rows) + 2, "board", rows)
            self.bad(len(rows) + 2, "board", rows, "sign a ", FILM)
        self.assertEqual(self.good("board", "  .oo", "  o..", FILM).board, Board((".oo", "o..")))

    def test_headings(self):
        for word in ("sign", "film"):
            for heading in (word, word + " ", word + "  a", " " + word + " a", word + " a ", word + " a b", word + "a", word + " A",
                            word + " a1", word + " ab_", word + " abcdefghi", word + " 0", "  " + word + " a", word + "\ta",
                            word.upper() + " a", word + "s a", word + " a\r", word + " a,b", word + " \u00e9", word + " \u00df"):
                rows = ["  #", "  #"] if word == "sign" else ["  dark 1"]
                self.bad(4, HEAD, heading, rows, FILM)
                self.bad(7, HEAD, SIGN_A, heading, rows, FILM)
                self.bad(6, HEAD, FILM, heading, rows)
        book = self.good(HEAD, "sign abcdefgh", "  #", "  #", "film hgfedcba", "  still abcdefgh 1")
        self.assertEqual((book.signs, book.names), (("abcdefgh",), ("hgfedcba",)))

    def test_signs(self):
        self.assertEqual(self.good(HEAD, FILM).signs, ())
        self.assertEqual(self.good(HEAD, SIGN_B, SIGN_A, FILM).signs, ("b", "a"))
        for row in ("  ", "", " #.", "#.", "   #.", "  #o", "  oo", "  # .", "  #. ", "  " + "#" * 6, "  #\r", "  ##\t"):
            self.bad(5, HEAD, "sign a", row, "  ##", FILM)
            self.bad(6, HEAD, "sign a", "  #.", row, FILM)
        self.bad(6, HEAD, "sign a", "  #.", "  #", FILM)
        self.bad(6, HEAD, "sign a", "  #.", "  #.#", FILM)
        for columns in (1, 5):
            self.good(HEAD, "sign a", "  " + "#" * columns, "  " + "." * columns, FILM)
        self.bad(5, HEAD, "sign a", "  ######", "  ######", FILM)
        # Too few rows, and too many.
        self.bad(5, HEAD, "sign a", FILM)
        self.bad(6, HEAD, "sign a", "  #.", FILM)
        self.bad(6, HEAD, "sign a", "  #.", SIGN_B, FILM)
        self.bad(7, HEAD, SIGN_A, "  ##", FILM)
        self.bad(7, HEAD, SIGN_A, "  #.", "  ##", FILM)
        self.bad(5, HEAD, "sign a")
        self.bad(6, HEAD, "sign a", "  #.")
        self.bad(7, HEAD, SIGN_A)
        self.bad(7, HEAD, SIGN_A, "")
        self.good("board", ["  o"] * 10, "sign a", ["  #"] * 10, FILM)
        self.bad(22, "board", ["  o"] * 10, "sign a", ["  #"] * 9, FILM)
        self.bad(23, "board", ["  o"] * 10, "sign a", ["  #"] * 11, FILM)

    def test_names_of_signs_and_films(self):
        self.bad(7, HEAD, SIGN_A, SIGN_A, FILM)
        self.bad(10, HEAD, SIGN_A, SIGN_B, "sign a", "  #", "  #", FILM)
        self.bad(6, HEAD, FILM, FILM)
        self.bad(8, HEAD, FILM, "film b", "  dark 1", "film a", "  dark 2")
        book = self.good(HEAD, SIGN_A, "film a", "  still a 1")
        self.assertEqual((book.signs, book.names), (("a",), ("a",)))

    def test_order_of_the_parts(self):
        self.bad(6, HEAD, FILM, SIGN_A)
        self.bad(6, HEAD, FILM, SIGN_B, "film b", "  still b 1")
        self.bad(6, HEAD, FILM, HEAD)
        self.bad(7, HEAD, SIGN_A, HEAD, FILM)
        self.bad(4, HEAD)
        self.bad(4, HEAD, "")
        self.bad(4, HEAD, "", FILM)
        self.bad(4, HEAD, "  dark 1")
        self.bad(7, HEAD, SIGN_A, "  dark 1")
        self.bad(6, HEAD, FILM, "")
        self.bad(6, HEAD, FILM, "  ")
        self.bad(6, HEAD, FILM, "", "film b", "  dark 1")
        self.bad(5, HEAD, "film a")
        self.bad(5, HEAD, "film a", "")
        self.bad(5, HEAD, "film a", "film b", "  dark 1")
        self.bad(7, HEAD, FILM, "film b")
        self.bad(5, HEAD, "film a", SIGN_A)

    def test_lines_of_a_film(self):
        bad = [
            "", "  ", "dark 1", " dark 1", "   dark 1", "  dark", "  dark ", "  dark 0", "  dark 13", "  dark 01", "  dark -1",
            "  dark 1 ", "  dark 1 1", "  dark  1", "  dark +1", "  dark 1.", "  dark x", "  dark a 1", "  Dark 1", "  dark 1\r",
            "  dark 100", "  dark 999999999", "  dark \u0661", "  dark \u00b2", "  dark 1_0", "  light 1", "  ooo", "  ##",
            "  still a", "  still a 0", "  still a 13", "  still a 01", "  still 1", "  still  1", "  still c 1", "  still a,c 1",
            "  still a,,b 1", "  still ,a 1", "  still a, 1", "  still , 1", "  still a b 1", "  still a,b", "  still a 1 1",
            "  still a 1 ", "  still  a 1", "  still a  1", "  stil a 1", "  still A 1", "  still a;b 1", "  still aa 1", "\tstill a 1",
            "  still a, b 1", "  still a x", "  still a -1", "still a 1", " still a 1", "   still a 1", "  sign a", "  film a",
            "  run a", "  run a 0", "  run a 10", "  run a 01", "  run c 1", "  run a,c 1", "  run a,,b 1", "  run a 1 ", "  run a 1 1",
            "  run  a 1", "  run a b 1", "  run 1", "run a 1", " run a 1", "   run a 1", "  running a 1", "  run a x", "  run a -1",
        ]
        for line in bad:
            self.bad(11, HEAD, SIGN_A, SIGN_B, "film a", line, FILM[1:])
            self.bad(12, HEAD, SIGN_A, SIGN_B, FILM, line)
            self.bad(12, HEAD, SIGN_A, SIGN_B, FILM, line, "film b", "  dark 1")
            self.bad(13, HEAD, SIGN_A, SIGN_B, FILM, "film b", line)
        for line in ("  dark 1", "  dark 9", "  still a 11", "  still b,a 2", "  run a 9", "  run b,a 1", "  run b 1"):
            self.good(HEAD, SIGN_A, SIGN_B, FILM, line)

    def test_lines_of_a_count(self):
        ten = "a,b,a,b,a,b,a,b,a,b"
        bad = [
            "  count 0 0 " + ten[:-2], "  count 0 0 " + ten + ",a", "  count 0 0 a", "  count 0 0", "  count 0 0 ", "  count 0 " + ten,
            "  count 1 0 " + ten, "  count 10 9 " + ten, "  count 999 998 " + ten, "  count 0 1000 " + ten, "  count 1000 1000 " + ten,
            "  count 00 1 " + ten, "  count 0 01 " + ten, "  count 01 01 " + ten, "  count -1 0 " + ten, "  count 0  1 " + ten,
            "  count  0 1 " + ten, "  count 0 1  " + ten, "  count 0 1 " + ten + " ", "  count 0 1 " + ten + " 1", "  count x 1 " + ten,
            "  count 0 x " + ten, "  count 0 1 " + ten.replace("b", "c"), "  count 0 1 " + ten[:-1] + "c", "count 0 1 " + ten,
            "  count 0 1 " + ten[:-1], "  count 0 1 ," + ten[2:], "  counts 0 1 " + ten, "  count 0 12 " + ten, "  count 998 1010 " + ten,
            "  count 100 999 " + ten, "  count 0 999 " + ten, "  count 0,1 " + ten, "  count 0 1 " + ten.replace(",", " "),
        ]
        for line in bad:
            self.bad(11, HEAD, SIGN_A, SIGN_B, "film a", line, FILM[1:])
            self.bad(12, HEAD, SIGN_A, SIGN_B, FILM, line)
        for least, most, many in ((0, 0, 1), (0, 11, 12), (9, 10, 2), (999, 999, 1), (988, 999, 12), (99, 101, 3)):
            book = self.good(HEAD, SIGN_A, SIGN_B, "film a", f"  count {least} {most} {ten}")
            self.assertEqual(len(book["a"]), many)
        self.good(HEAD, SIGN_A, "film a", "  count 0 3 a,a,a,a,a,a,a,a,a,a")

    def test_all_films_together(self):
        twelve = "  dark 12"
        self.assertEqual(len(self.good(HEAD, "film a", twelve)["a"]), 12)
        self.bad(6, HEAD, "film a", twelve, "  dark 1")
        self.bad(6, HEAD, "film a", "  dark 11", "  dark 2", "  dark 1")
        self.bad(7, HEAD, "film a", "  dark 6", "  dark 6", "  dark 1")
        self.good(HEAD, "film a", twelve, "film b", twelve)
        self.bad(9, HEAD, "film a", twelve, "film b", twelve, "film c", "  dark 1")
        self.bad(8, HEAD, "film a", twelve, "film b", "  dark 11", "  dark 2")
        self.bad(9, HEAD, "film a", twelve, "film b", "  dark 11", "film c", "  dark 2")
        self.good(HEAD, "film a", twelve, "film b", "  dark 11", "film c", "  dark 1")
        self.bad(10, HEAD, "film a", twelve, "film b", "  dark 11", "film c", "  dark 1", "  dark 1")
        self.bad(9, HEAD, "film a", twelve, "film b", twelve, "film c")
        self.bad(8, HEAD, "film a", twelve, "film b", twelve, "sign c")

    def test_six_and_seven_films(self):
        six = [line for name in "abcdef" for line in (f"film {name}", "  dark 4")]
        self.assertEqual(self.good(HEAD, six).names, tuple("abcdef"))
        less = [line.replace("4", "1") for line in six]
        self.good(HEAD, less)
        self.bad(16, HEAD, less, "film g", "  dark 1")
        self.bad(16, HEAD, less, "film g")
        self.bad(16, HEAD, less, "film f", "  dark 1")
        self.bad(16, HEAD, six, "  dark 1")

    def test_the_strip_of_a_run(self):
        wide = ["sign w", "  #####", "  .....", "sign n", "  #", "  #"]
        for line, many in (("  run w 7", 12), ("  run w,w 1", 12), ("  run n 9", 10), ("  run n,n,n 7", 12), ("  run w,n,n 3", 12)):
            book = self.good(HEAD, wide, "film a", line)
            self.assertEqual(len(book["a"]), many)
        for line in ("  run w 8", "  run w 9", "  run w,w 2", "  run n,n,n 8", "  run w,n,n 4", "  run w,w,n 1"):
            self.bad(11, HEAD, wide, "film a", line)
            self.bad(13, HEAD, wide, "film b", "  dark 1", "film a", line)
        self.bad(12, HEAD, wide, "film a", "  dark 1", "  run w 7")
        # What stands still can be as wide as it is.
        self.good(HEAD, wide, "film a", "  still w,w,w,w,w,n 1")

    def test_the_end_of_the_text(self):
        lines = HEAD + SIGN_A + SIGN_B + FILM + ["film b", "  still a 1"]
        self.good(lines)
        for many in range(1, len(lines)):
            if many != len(lines) - 2:
                self.bad(many + 1, lines[:many])
            self.bad(many + 1, lines[:many], "")
            self.bad(many + 1, lines[:many], " ", lines[many:])
            self.bad(many + 1, lines[:many], "  ", lines[many:])
        self.bad(len(lines) + 1, lines, "")
        self.bad(len(lines) + 1, lines, "", "")
        self.bad(1, "\ufeffboard", lines[1:])

    def test_long_numbers(self):
        for figures in ("1" * 10, "9" * 100, "1" + "0" * 99):
            self.bad(6, HEAD, FILM, f"  light {figures}")
            self.bad(6, HEAD, FILM, f"  dark {figures} {figures}")


class PicturesTest(Refusals):
    def test_still_side_by_side(self):
        book = self.good("board", "  ooooo", "  ooooo", SIGN_A, SIGN_B, "film x", "  still a,b 2", "  still b,a 1", "  still a 1")
        self.assertEqual([picture.rows for picture in book["x"].pictures], [
            ("#ooo#", "##o#o"), ("#ooo#", "##o#o"), ("o#oo#", "#o#o#"), ("#oooo", "##ooo"),
        ])

    def test_what_is_beyond_the_board_or_where_it_has_no_dots_is_lost(self):
        lines = ("sign f", "  ##", "  ##", "film x", "  still f,f,f 1", "  run f,f 1")
        book = self.good("board", "  o.o", "  .oo", lines)
        self.assertEqual(book["x"][0].rows, ("#.o", ".#o"))
        self.assertEqual([picture.rows for picture in book["x"].pictures[1:]],
                         [("#.o", ".#o"), ("#.#", ".o#"), ("o.#", ".##"), ("#.o", ".#o"), ("#.#", ".o#"), ("o.#", ".##")])
        book = self.good("board", "  o", "  o", lines)
        self.assertEqual([picture.rows for picture in book["x"].pictures],
                         [("#", "#")] * 3 + [("o", "o")] + [("#", "#")] * 2 + [("o", "o")])

    def test_run_comes_round(self):
        book = self.good("board", "  oooooooooo", "sign i", "  #", "film r", "  run i 2", "film s", "  run i,i 1")
        self.assertEqual([picture.rows[0] for picture in book["r"].pictures], ["#oo#oo#oo#", "oo#oo#oo#o", "o#oo#oo#oo"])
        self.assertEqual([picture.rows[0] for picture in book["s"].pictures],
                         ["#o#o#o#o#o", "o#o#o#o#o#", "#o#o#o#o#o", "o#o#o#o#o#"])
        board = Board(("o" * 10,))
        self.assertEqual(book["r"], running(board, ((0,), (), ())))

    def test_what_stands_still_does_not_come_round(self):
        book = self.good("board", "  oooooooooo", "sign i", "  #", "film r", "  still i 1", "  count 3 3 i,i,i,i,i,i,i,i,i,i")
        self.assertEqual([picture.rows[0] for picture in book["r"].pictures], ["#ooooooooo"] * 2)

    def test_count(self):
        signs = []
        for at, name in enumerate("abcdefghij"):
            rows = ["  #" if at >> row & 1 else "  ." for row in range(4)]
            signs += [f"sign {name}"] + rows
        head = ["board"] + ["  ooooo"] * 4
        names = "a,b,c,d,e,f,g,h,i,j"
        for least, most in ((0, 9), (8, 11), (0, 11), (98, 101), (7, 7), (995, 999), (10, 12)):
            book = self.good(head, signs, "film c", f"  count {least} {most} {names}")
            self.assertEqual(len(book["c"]), most - least + 1)
            for tick in range(most - least + 1):
                text = str(least + tick).zfill(len(str(most)))
                dots = [(row, at * 2) for at, one in enumerate(text) for row in range(4) if int(one) >> row & 1]
                self.assertEqual(book["c"][tick].dots, tuple(sorted(dots)))
        book = self.good(head, signs, "film c", "  count 9 10 b,b,b,b,b,b,b,b,b,a")
        self.assertEqual([picture.rows[0] for picture in book["c"].pictures], ["#oooo", "#o#oo"])

    def test_dark(self):
        book = self.good(HEAD, "film a", "  dark 3", "film b", "  dark 1")
        self.assertEqual(book["a"], Film((Picture(book.board),) * 3))
        self.assertEqual(len(book["b"]), 1)

    def test_lines_one_behind_the_other(self):
        book = self.good("board", "  ooo", "sign i", "  #", "film a", "  still i 2", "  dark 1", "  run i 1", "  still i,i 1")
        self.assertEqual([picture.rows[0] for picture in book["a"].pictures], ["#oo", "#oo", "ooo", "#o#", "o#o", "#o#"])

    def test_against_plain_books(self):
        generator = random.Random(250)
        films = 0
        for text in plain_book.some_texts(generator, 600):
            with self.subTest(text=text):
                book, (_, plain) = Book(text), plain_book.read(text)
                self.assertEqual(book.board.rows, tuple(plain.board))
                self.assertEqual((book.signs, book.names), (tuple(plain.signs), tuple(plain.films)))
                for name, film in zip(book.names, book.films):
                    self.assertEqual([picture.rows for picture in film.pictures], plain.pictures(name))
                    films += 1
        self.assertGreater(films, 700)

    def test_changed_texts(self):
        generator = random.Random(251)
        found = []
        for text in plain_book.some_texts(generator, 400) + plain_book.some_texts(generator, 400, False):
            for _ in range(8):
                other = plain_book.other_lines(generator, text)
                if generator.random() < 0.4:
                    other = plain_book.other_characters(generator, other or text, CHARACTERS)
                number, _ = plain_book.read(other)
                found.append(number)
                if number is None:
                    self.assertEqual(Book(other).text, other)
                else:
                    self.bad(number, other)
        self.assertGreater(min(found.count(None), found.count(1), found.count(5)), 100)


class BookTest(Refusals):
    def setUp(self):
        self.book = self.good(HEAD, SIGN_A, SIGN_B, FILM, "film b", "  run b 1")

    def test_properties(self):
        book = self.book
        text = text_of(HEAD, SIGN_A, SIGN_B, FILM, "film b", "  run b 1")
        self.assertEqual((book.text, book.board, book.signs, book.names), (text, Board(("ooo", "ooo")), ("a", "b"), ("a", "b")))
        self.assertEqual((type(book.films), [type(film) for film in book.films]), (tuple, [Film, Film]))
        self.assertTrue(all(film.board == book.board for film in book.films))
        self.assertEqual(book.films, (book["a"], book["b"]))
        self.assertEqual(book["a"], Film((Picture(book.board),)))

    def test_items(self):
        for value in any_values() + ["c", "A", "a ", "", "board", ("a",), ["a"], 0, 1, True, self.book, self.book.films[0], "ab"]:
            if value in ("a", "b") and isinstance(value, str):
                self.assertIs(value in self.book, True)
                continue
            self.assertIs(value in self.book, False)
            refused(self, NoFilm, value, lambda: self.book[value])
        only = self.good(HEAD, SIGN_A, SIGN_B, "film b", "  still a 1")
        self.assertTrue("b" in only and "a" not in only)
        refused(self, NoFilm, "a", lambda: only["a"])

    def test_equal(self):
        text = self.book.text
        self.assertTrue(self.book == Book(text) and not self.book != Book(text))
        other = self.good(HEAD, SIGN_A, FILM)
        same_films = self.good(HEAD, FILM)
        self.assertTrue(other != same_films and other.films == same_films.films)
        for value in any_values() + [text, self.book.films, other]:
            self.assertFalse(self.book == value)
            self.assertTrue(self.book != value)

    def test_by_name(self):
        self.assertEqual(Book(text=self.book.text), self.book)


if __name__ == "__main__":
    unittest.main()
