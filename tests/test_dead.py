import copy
import itertools
import unittest

from tests.values import any_values, refused, small_boards
from wiresindark.boards import Board
from wiresindark.errors import BadColumns, BadRows, OtherBoard
from wiresindark.pictures import Dead, Picture

ROWS = ("oo.", ".oo")


def subsets(many):
    return [part for size in range(many + 1) for part in itertools.combinations(range(many), size)]


def all_dead(board):
    return [Dead(board, rows, columns) for rows in subsets(board.height) for columns in subsets(board.width)]


def parts(dead):
    return set(dead.rows), set(dead.columns)


def ascending(*kinds):
    return tuple(tuple(sorted(kind)) for kind in kinds)


class DeadTest(unittest.TestCase):
    def test_attributes(self):
        board = Board(("ooo", "ooo", "oo."))
        dead = Dead(board, (0, 2), (1, 2))
        self.assertIs(dead.board, board)
        self.assertEqual((dead.rows, dead.columns), ((0, 2), (1, 2)))
        self.assertEqual(dead.wires, (("column", 1), ("column", 2), ("row", 0), ("row", 2)))
        self.assertEqual(dead.dots, ((0, 0), (0, 1), (0, 2), (1, 1), (1, 2), (2, 0), (2, 1)))
        self.assertEqual(len(dead), 4)

    def test_attributes_of_all(self):
        for board in small_boards()[:5]:
            for rows, columns in itertools.product(subsets(board.height), subsets(board.width)):
                with self.subTest(board.rows, rows=rows, columns=columns):
                    dead = Dead(board=board, rows=rows, columns=columns)
                    wires = [("row", number) for number in rows] + [("column", number) for number in columns]
                    met = [dot for dot in board.dots if dot[0] in rows or dot[1] in columns]
                    self.assertEqual(dead.wires, tuple(sorted(wires)))
                    self.assertEqual(dead.dots, tuple(met))
                    self.assertEqual(len(dead), len(rows) + len(columns))

    def test_defaults(self):
        board = Board(ROWS)
        self.assertEqual((Dead(board).rows, Dead(board).columns, Dead(board).wires, Dead(board).dots), ((), (), (), ()))
        self.assertEqual(len(Dead(board)), 0)
        self.assertEqual(Dead(board, (1,)).columns, ())
        self.assertEqual(Dead(board, columns=(2,)).wires, (("column", 2),))
        self.assertEqual(Dead(board, columns=(2,)).dots, ((1, 2),))

    def test_first_last_and_all_numbers(self):
        for board in small_boards():
            with self.subTest(board.rows):
                every = Dead(board, tuple(range(board.height)), tuple(range(board.width)))
                self.assertEqual(every.wires, board.wires)
                self.assertEqual(every.dots, board.dots)
                self.assertEqual(Dead(board, (0,)).wires, (("row", 0),))
                self.assertEqual(Dead(board, (board.height - 1,)).wires, (("row", board.height - 1),))
                self.assertEqual(Dead(board, (), (0,)).wires, (("column", 0),))
                self.assertEqual(Dead(board, (), (board.width - 1,)).wires, (("column", board.width - 1),))

    def test_refused_numbers(self):
        board = Board(("ooo", "ooo", "ooo"))
        wrong = [
            (3,), (-1,), (-3,), (0, 3), (-1, 0), (1, 0), (0, 0), (0, 2, 1), (2, 1, 0), (1, 1, 2), (True,), (False,),
            (0, True), (False, 1), (None,), ("0",), ("row",), (0, "1"), ("row", 0), (("row", 0),), ((0,),), (0, ()),
            [0], [], (0, [1]), {}, {0: 1}, (0, {}), 0, 1, True, False, None, "", "012", board, (board,), (0, board),
            (10 ** 9,), (0, 1, 2, 3), ([],), Dead(board),
        ]
        for numbers in wrong:
            with self.subTest(numbers=numbers):
                before = copy.deepcopy(numbers)
                refused(self, BadRows, numbers, lambda: Dead(board, numbers))
                refused(self, BadRows, numbers, lambda: Dead(board, rows=numbers, columns=(1,)))
                refused(self, BadColumns, numbers, lambda: Dead(board, (0,), numbers))
                refused(self, BadColumns, numbers, lambda: Dead(board, columns=numbers))
                self.assertEqual(numbers, before)

    def test_any_value_is_refused(self):
        board = Board(("oo",) * 2)
        good = [(), (0,), (1,)]
        for value in any_values():
            if value in good and True not in map(lambda x: isinstance(x, bool), value):
                continue
            with self.subTest(value=value):
                refused(self, BadRows, value, lambda: Dead(board, value))
                refused(self, BadColumns, value, lambda: Dead(board, (), value))

    def test_rows_are_refused_ahead_of_columns(self):
        board = Board(ROWS)
        for rows, columns in (([0], [0]), ((2,), (3,)), (None, None), ((True,), (True,)), ((1, 0), 0)):
            with self.subTest(rows=rows, columns=columns):
                refused(self, BadRows, rows, lambda: Dead(board, rows, columns))
                refused(self, BadRows, rows, lambda: Dead(columns=columns, rows=rows, board=board))

    def test_rows_are_numbered_by_height_and_columns_by_width(self):
        board = Board(ROWS)
        refused(self, BadRows, numbers := (2,), lambda: Dead(board, numbers, (2,)))
        self.assertEqual(Dead(board, (1,), (2,)).wires, (("column", 2), ("row", 1)))
        refused(self, BadColumns, numbers, lambda: Dead(~board, (2,), numbers))

    def test_sets_of_wires(self):
        for board in (Board(ROWS), Board((".o", "o."))):
            for one, other in itertools.product(all_dead(board), all_dead(Board(board.rows))):
                before = dict(vars(one)), dict(vars(other))
                (rows, columns), (more_rows, more_columns) = parts(one), parts(other)
                found = [one | other, one & other, one - other, one ^ other, one.over(other), one.under(other)]
                expected = [
                    ascending(rows | more_rows, columns | more_columns),
                    ascending(rows & more_rows, columns & more_columns),
                    ascending(rows - more_rows, columns - more_columns),
                    ascending(rows ^ more_rows, columns ^ more_columns),
                    ascending(rows | more_rows, columns & more_columns),
                    ascending(rows & more_rows, columns | more_columns),
                ]
                with self.subTest(board.rows, one=one.wires, other=other.wires):
                    self.assertEqual([(dead.rows, dead.columns) for dead in found], expected)
                    self.assertTrue(all(isinstance(dead, Dead) and dead.board == board for dead in found))
                    self.assertIs(one.is_within(other), set(one.wires) <= set(other.wires))
                    self.assertIs(one == other, one.wires == other.wires)
                    self.assertIs(one != other, one.wires != other.wires)
                    self.assertEqual((vars(one), vars(other)), before)

    def test_methods_by_name(self):
        one, other = Dead(Board(ROWS), (0,), (1,)), Dead(Board(ROWS), (1,), (1, 2))
        self.assertEqual(one.over(other=other), Dead(Board(ROWS), (0, 1), (1,)))
        self.assertEqual(one.under(other=other), Dead(Board(ROWS), (), (1, 2)))
        self.assertIs(one.is_within(other=other), False)

    def test_operators_with_another_board(self):
        left, right = Dead(Board(ROWS), (0,)), Dead(Board(("oo.", "ooo")), (0,))
        before = dict(vars(left)), dict(vars(right))
        calls = [
            lambda one, other: one | other,
            lambda one, other: one & other,
            lambda one, other: one - other,
            lambda one, other: one ^ other,
            lambda one, other: one.is_within(other),
            lambda one, other: one.over(other),
            lambda one, other: one.under(other),
        ]
        for place, call in enumerate(calls):
            with self.subTest(place):
                refused(self, OtherBoard, right, lambda: call(left, right))
                refused(self, OtherBoard, left, lambda: call(right, left))
                refused(self, OtherBoard, right, lambda: call(Dead(Board(ROWS)), right))
        self.assertEqual((vars(left), vars(right)), before)

    def test_contains(self):
        dead = Dead(Board(("ooo",) * 3), (0, 1), (1,))
        for wire in dead.board.wires:
            self.assertIs(wire in dead, wire in (("row", 0), ("row", 1), ("column", 1)))
        wrong = [
            ("row", True), ("row", False), ("column", True), ["row", 0], ["column", 1], ("row", 0, 0), ("row",), "row",
            ("rows", 0), ("", 0), (0, "row"), ("row", "0"), ("row", -1), ("row", 10 ** 9), (("row", 0),), ("row", [0]),
            (["row"], 0), ("row", {}), ({}, 0), ("row", None), (None, 0), (0, 0), ("row", (0,)), 0, (), (dead, 0),
        ]
        for value in wrong:
            with self.subTest(value=value):
                self.assertIs(value in dead, False)

    def test_contains_no_other_value(self):
        board = Board(("oo", "oo"))
        every = Dead(board, (0, 1), (0, 1))
        for value in any_values():
            with self.subTest(value=value):
                self.assertIs(value in every, value == ("row", 0))
                self.assertIs(value in Dead(board), False)

    def test_turned(self):
        for board in small_boards()[:5]:
            for dead in all_dead(board):
                before = dict(vars(dead))
                with self.subTest(board.rows, dead=dead.wires):
                    self.assertEqual((~dead).board, ~board)
                    self.assertEqual(((~dead).rows, (~dead).columns), (dead.columns, dead.rows))
                    self.assertEqual((~dead).dots, tuple(sorted((column, row) for row, column in dead.dots)))
                    self.assertEqual(~~dead, dead)
                    self.assertEqual(vars(dead), before)

    def test_equal(self):
        board, larger = Board(ROWS), Board(("oo.", "ooo"))
        self.assertTrue(Dead(board, (0,), (1,)) == Dead(Board(ROWS), (0,), (1,)))
        self.assertFalse(Dead(board, (0,)) == Dead(board, (), (0,)))
        self.assertFalse(Dead(board, (0,)) == Dead(larger, (0,)))
        self.assertTrue(Dead(board) != Dead(larger))

    def test_not_equal_though_the_same_dots_are_met(self):
        board = Board(("o",))
        self.assertFalse(Dead(board, (0,)) == Dead(board, (), (0,)))
        self.assertFalse(Dead(board, (0,)) == Dead(board, (0,), (0,)))

    def test_equal_to_nothing_else(self):
        board = Board(("oo", "oo"))
        for dead in (Dead(board), Dead(board, (0, 1), (0, 1))):
            for value in [dead.wires, dead.dots, board, Picture(board), Picture(board, dead.dots)] + any_values():
                with self.subTest(value=value):
                    self.assertIs(dead == value, False)
                    self.assertIs(value == dead, False)
                    self.assertIs(dead != value, True)


if __name__ == "__main__":
    unittest.main()
