import copy
import itertools
import unittest

from tests.values import any_values, refused, small_boards
from wiresindark.boards import Board
from wiresindark.errors import BadDots, BadRows, OtherBoard
from wiresindark.pictures import Dead, Picture, drawn

ROWS = ("oo.", ".oo")
DOTS = ((0, 0), (0, 1), (1, 1), (1, 2))


def subsets(things):
    return [part for many in range(len(things) + 1) for part in itertools.combinations(things, many)]


class PictureTest(unittest.TestCase):
    def test_attributes(self):
        board = Board(ROWS)
        picture = Picture(board, ((0, 1), (1, 2)))
        self.assertIs(picture.board, board)
        self.assertEqual(picture.dots, ((0, 1), (1, 2)))
        self.assertEqual(picture.rows, ("o#.", ".o#"))
        self.assertEqual(len(picture), 2)

    def test_no_dots_and_all_dots(self):
        for board in small_boards():
            with self.subTest(board.rows):
                self.assertEqual(Picture(board).dots, ())
                self.assertEqual(Picture(board).rows, board.rows)
                self.assertEqual(len(Picture(board)), 0)
                self.assertEqual(Picture(board, ()), Picture(board))
                full = Picture(board=board, dots=board.dots)
                self.assertEqual(full.dots, board.dots)
                self.assertEqual(full.rows, tuple(row.replace("o", "#") for row in board.rows))
                self.assertEqual(len(full), len(board))

    def test_first_and_last_dot(self):
        for board in small_boards():
            for dot in (board.dots[0], board.dots[-1]):
                with self.subTest(board.rows, dot=dot):
                    rows = [list(row) for row in board.rows]
                    rows[dot[0]][dot[1]] = "#"
                    self.assertEqual(Picture(board, (dot,)).rows, tuple("".join(row) for row in rows))

    def test_refused_dots(self):
        board = Board(ROWS)
        wrong = [
            ((0, 2),), ((1, 0),), ((2, 0),), ((0, 3),), ((-1, 0),), ((0, -1),), ((-1, -1),), ((0, 1), (0, 0)),
            ((0, 0), (0, 0)), ((1, 1), (0, 1)), ((0, 0), (1, 1), (0, 1)), ((0, 0), (1, 0)), [(0, 0)], ([0, 0],),
            ((False, False),), ((0, True),), ((True, True),), ((0, 0), (0, True)), (0, 0), ((0, 0), 1), ((0, 0), None),
            ((0, 0), "oo"), ("#o.", ".oo"), ((0, 0, 0),), ((0,),), (((0, 0),),), {(0, 0): True}, "", None, 0, False,
            ((0, 0), [0, 1]), ([0, 0], (0, 1)), ("row", 0), (("row", 0),), board, (board,), board.rows, [],
            ((board, 0),), ((0, [0]),), (({}, {}),), {},
        ]
        for dots in wrong:
            with self.subTest(dots=dots):
                before = copy.deepcopy(dots)
                refused(self, BadDots, dots, lambda: Picture(board, dots))
                refused(self, BadDots, dots, lambda: Picture(board=board, dots=dots))
                self.assertEqual(dots, before)

    def test_any_value_is_refused(self):
        board = Board(("oo", "oo"))
        for value in any_values():
            if value == () or value == ((0, 0),) and not isinstance(value[0], list) and value[0][0] is not False:
                continue
            with self.subTest(value=value):
                refused(self, BadDots, value, lambda: Picture(board, value))

    def test_sets_of_dots(self):
        board = Board(ROWS)
        for one, other in itertools.product(subsets(DOTS), repeat=2):
            left, right = Picture(board, one), Picture(Board(ROWS), other)
            before = dict(vars(left)), dict(vars(right))
            expected = [set(one) | set(other), set(one) & set(other), set(one) - set(other), set(one) ^ set(other)]
            found = [left | right, left & right, left - right, left ^ right]
            with self.subTest(one=one, other=other):
                self.assertEqual([picture.dots for picture in found], [tuple(sorted(dots)) for dots in expected])
                self.assertTrue(all(isinstance(picture, Picture) and picture.board == board for picture in found))
                self.assertIs(left.is_within(right), set(one) <= set(other))
                self.assertIs(left.is_within(other=right), set(one) <= set(other))
                self.assertIs(left == right, one == other)
                self.assertIs(left != right, one != other)
                self.assertEqual((vars(left), vars(right)), before)

    def test_operators_with_another_board(self):
        left, right = Picture(Board(ROWS), DOTS[:1]), Picture(Board(("oo.", "ooo")), DOTS[:1])
        before = dict(vars(left)), dict(vars(right))
        calls = [
            lambda one, other: one | other,
            lambda one, other: one & other,
            lambda one, other: one - other,
            lambda one, other: one ^ other,
            lambda one, other: one.is_within(other),
            lambda one, other: one.is_within(other=other),
        ]
        for place, call in enumerate(calls):
            with self.subTest(place):
                refused(self, OtherBoard, right, lambda: call(left, right))
                refused(self, OtherBoard, left, lambda: call(right, left))
                refused(self, OtherBoard, right, lambda: call(Picture(Board(ROWS)), right))
        self.assertEqual((vars(left), vars(right)), before)

    def test_less_what_is_dead(self):
        for board in small_boards()[:5]:
            rows, columns = subsets(range(board.height)), subsets(range(board.width))
            for row_numbers, column_numbers in itertools.product(rows, columns):
                dead = Dead(Board(board.rows), row_numbers, column_numbers)
                for dots in (board.dots, board.dots[::2], board.dots[1:], ()):
                    picture = Picture(board, dots)
                    before = dict(vars(picture)), dict(vars(dead))
                    left = tuple(dot for dot in dots if dot[0] not in row_numbers and dot[1] not in column_numbers)
                    with self.subTest(board.rows, dead=dead.wires, dots=dots):
                        self.assertEqual(picture - dead, Picture(board, left))
                        self.assertEqual((vars(picture), vars(dead)), before)

    def test_less_what_is_dead_on_another_board(self):
        dead = Dead(Board(("oo.", "ooo")), (0,))
        refused(self, OtherBoard, dead, lambda: Picture(Board(ROWS), DOTS) - dead)
        none = Dead(Board(("o",)))
        refused(self, OtherBoard, none, lambda: Picture(Board(ROWS)) - none)

    def test_contains(self):
        picture = Picture(Board(ROWS), ((0, 1), (1, 2)))
        for dot in DOTS:
            self.assertIs(dot in picture, dot in ((0, 1), (1, 2)))
        for value in [[0, 1], (0, True), (False, 1), (False, True), (True, 2), (0, 1, 0), ((0, 1),), ([0], 1), (0, [1])]:
            with self.subTest(value=value):
                self.assertIs(value in picture, False)

    def test_contains_no_other_value(self):
        board = Board(("oo", "oo"))
        for value in any_values():
            lit = value == (0, 0) and value[0] is not False
            with self.subTest(value=value):
                self.assertIs(value in Picture(board, board.dots), lit)
                self.assertIs(value in Picture(board), False)

    def test_turned(self):
        self.assertEqual((~Picture(Board(ROWS), ((0, 1), (1, 2)))).rows, ("o.", "#o", ".#"))
        for board in small_boards():
            for dots in (board.dots, board.dots[::2], board.dots[:1], board.dots[-1:], ()):
                picture = Picture(board, dots)
                before = dict(vars(picture))
                with self.subTest(board.rows, dots=dots):
                    self.assertEqual((~picture).board, ~board)
                    self.assertEqual((~picture).dots, tuple(sorted((column, row) for row, column in dots)))
                    self.assertEqual(~~picture, picture)
                    self.assertEqual(vars(picture), before)

    def test_equal(self):
        board = Board(ROWS)
        self.assertTrue(Picture(board, DOTS[:2]) == Picture(Board(ROWS), DOTS[:2]))
        self.assertFalse(Picture(board, DOTS[:2]) == Picture(board, DOTS[:1]))
        self.assertFalse(Picture(board, DOTS[:2]) == Picture(Board(("oo.", "ooo")), DOTS[:2]))
        self.assertFalse(Picture(board) == Picture(Board(("oo.", "ooo"))))
        self.assertTrue(Picture(board) != Picture(Board(("oo.", "ooo"))))

    def test_equal_to_nothing_else(self):
        board = Board(("oo", "oo"))
        for picture in (Picture(board), Picture(board, board.dots)):
            for value in [picture.dots, picture.rows, board, Dead(board), Dead(board, (0, 1))] + any_values():
                with self.subTest(value=value):
                    self.assertIs(picture == value, False)
                    self.assertIs(value == picture, False)
                    self.assertIs(picture != value, True)


class DrawnTest(unittest.TestCase):
    def test_each_picture_is_drawn_again(self):
        board = Board(ROWS)
        for dots in subsets(DOTS):
            picture = Picture(board, dots)
            with self.subTest(dots=dots):
                again = drawn(Board(ROWS), picture.rows)
                self.assertEqual(again, picture)
                self.assertEqual(again.rows, picture.rows)
        for board in small_boards():
            self.assertEqual(drawn(board=board, rows=board.rows), Picture(board))
            self.assertEqual(drawn(board, Picture(board, board.dots).rows).dots, board.dots)

    def test_refused_rows(self):
        board = Board(ROWS)
        wrong = [
            ("##.", ".#"), ("##.",), ("##.", ".##", "..."), ("##.", ".##."), ("##", ".##"), ("###", ".##"), ("##.", "###"),
            ("##o", ".##"), ("##.", "o##"), ("#..", ".##"), (".#.", ".##"), ("##.", ".# "), ("#O.", ".##"), (), ("",),
            ("", ""), ["##.", ".##"], ("##.", [".", "#", "#"]), (("#", "#", "."), ".##"), ("##.", None), ("##.", 0),
            ("##.", True), "##.", "##.\n.##", None, 0, False, True, {}, {"##.": ".##"}, [], board, (board,),
            ("##.", board), (Picture(board),), Picture(board), ("#o.", ".oo\n"), ("..", "##"), ("##." * 4, ".##" * 4),
            ("##.", ".##") * 10, ("oo.", ".oo", ""), ("oo.", ("",)), (("oo.", ".oo"),),
        ]
        for rows in wrong:
            with self.subTest(rows=rows):
                before = copy.deepcopy(rows)
                refused(self, BadRows, rows, lambda: drawn(board, rows))
                refused(self, BadRows, rows, lambda: drawn(board=board, rows=rows))
                self.assertEqual(rows, before)

    def test_any_value_is_refused(self):
        for value in any_values():
            with self.subTest(value=value):
                refused(self, BadRows, value, lambda: drawn(Board(("oo", "oo")), value))


if __name__ == "__main__":
    unittest.main()
