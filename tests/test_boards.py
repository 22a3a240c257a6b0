import copy
import unittest

from tests.values import any_values, refused, small_boards
from wiresindark.boards import Board
from wiresindark.errors import BadBoard
from wiresindark.pictures import Dead, Picture


class BoardTest(unittest.TestCase):
    def test_attributes(self):
        rows = ("oo.", ".oo")
        board = Board(rows)
        self.assertIs(board.rows, rows)
        self.assertEqual((board.height, board.width), (2, 3))
        self.assertEqual(board.dots, ((0, 0), (0, 1), (1, 1), (1, 2)))
        self.assertEqual(board.wires, (("column", 0), ("column", 1), ("column", 2), ("row", 0), ("row", 1)))
        self.assertIs(board.is_full, False)
        self.assertEqual(len(board), 4)
        self.assertEqual(Board(rows=rows).rows, rows)

    def test_attributes_of_all_boards(self):
        for board in small_boards():
            with self.subTest(board.rows):
                places = [(row, column) for row in range(board.height) for column in range(board.width)]
                dots = tuple(place for place in places if board.rows[place[0]][place[1]] == "o")
                columns = [("column", number) for number in range(board.width)]
                rows = [("row", number) for number in range(board.height)]
                self.assertEqual(board.dots, dots)
                self.assertEqual(board.dots, tuple(sorted(board.dots)))
                self.assertEqual(board.wires, tuple(sorted(columns + rows)))
                self.assertIs(board.is_full, not any("." in row for row in board.rows))
                self.assertEqual(len(board), len(dots))
                for place in places:
                    self.assertIs(place in board, place in dots)

    def test_least_and_greatest(self):
        self.assertEqual(Board(("o",)).dots, ((0, 0),))
        self.assertEqual(Board(("o",) * 10).height, 10)
        self.assertEqual(Board(("o" * 10,)).width, 10)
        self.assertEqual(len(Board(("o" * 10,) * 10)), 100)
        self.assertTrue(Board(("o" * 10,) * 10).is_full)
        diagonal = tuple("." * place + "o" + "." * (9 - place) for place in range(10))
        self.assertEqual(Board(diagonal).dots, tuple((place, place) for place in range(10)))
        self.assertFalse(Board(diagonal).is_full)

    def test_refused_forms(self):
        wrong = [
            ("o",) * 11, ("o" * 11,), ("o" * 11,) * 11, ("",), ("", ""), (), (".",), ("..", "oo"), ("oo", ".."),
            (".o", ".o"), ("o.", "o."), ("o.o", "o.o"), ("oo", "o"), ("o", "oo"), ("oo", "oo", "o"), ("", "o"),
            ("oO", "oo"), ("o#", "oo"), ("o ", "oo"), ("0",), ("oo\n",), ("oo", 0), (0, "oo"), ("oo", None),
            ("oo", ("o", "o")), (("o", "o"), "oo"), ("oo", ["o", "o"]), ["oo", "oo"], "oo", ("o", True), {"oo": "oo"},
            ("oo", Board(("oo",))), (b"o",), "o", ("o", "o", []), Board(("oo",)),
        ]
        for rows in wrong:
            with self.subTest(rows=rows):
                before = copy.deepcopy(rows)
                refused(self, BadBoard, rows, lambda: Board(rows))
                refused(self, BadBoard, rows, lambda: Board(rows=rows))
                self.assertEqual(rows, before)

    def test_any_value_is_refused(self):
        for value in any_values():
            if value == ("o",):
                continue
            with self.subTest(value=value):
                refused(self, BadBoard, value, lambda: Board(value))

    def test_contains(self):
        board = Board(("oo", "o."))
        for dot in ((0, 0), (0, 1), (1, 0)):
            self.assertIs(dot in board, True)
        wrong = [
            (1, 1), (2, 0), (0, 2), (-1, 0), (0, -1), (-2, 0), (10, 10), [0, 0], [1, 0], (True, 0), (0, True),
            (False, False), (1, False), (0,), (0, 0, 0), ((0, 0),), "00", ("0", "0"), (0, "o"), (0, None), (None, None),
            ([0], 0), (0, [0]), (0, {}), ({}, {}), ((0,), 0), (0, (0,)), 10 ** 9, ("row", 0), ("column", 0),
        ]
        for value in wrong:
            with self.subTest(value=value):
                self.assertIs(value in board, False)

    def test_contains_no_other_value(self):
        for value in any_values():
            if value == (0, 0) and not isinstance(value[0], bool):
                continue
            with self.subTest(value=value):
                self.assertIs(value in Board(("o",)), False)

    def test_turned(self):
        self.assertEqual((~Board(("oo.", ".oo"))).rows, ("o.", "oo", ".o"))
        self.assertEqual((~Board(("o" * 10,))).rows, ("o",) * 10)
        for board in small_boards():
            with self.subTest(board.rows):
                before = dict(vars(board))
                turned = ~board
                self.assertEqual((turned.height, turned.width), (board.width, board.height))
                self.assertEqual(turned.dots, tuple(sorted((column, row) for row, column in board.dots)))
                self.assertEqual(~turned, board)
                self.assertEqual(vars(board), before)

    def test_equal(self):
        boards = small_boards()
        for place, board in enumerate(boards):
            for number, other in enumerate(small_boards()):
                with self.subTest(board=board.rows, other=other.rows):
                    self.assertIs(board == other, place == number)
                    self.assertIs(board != other, place != number)

    def test_equal_to_nothing_else(self):
        board = Board(("oo", "o."))
        others = [board.rows, list(board.rows), board.dots, Picture(board), Picture(board, board.dots), Dead(board)]
        for value in others + [value for value in any_values() if not isinstance(value, Board)]:
            with self.subTest(value=value):
                self.assertIs(board == value, False)
                self.assertIs(value == board, False)
                self.assertIs(board != value, True)


if __name__ == "__main__":
    unittest.main()
