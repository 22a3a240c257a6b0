"""Guarantee (e), as far as it speaks of boards, pictures and dead wires."""

import itertools
import unittest

from wiresindark.boards import Board
from wiresindark.pictures import Dead, Picture, drawn

BOARDS = (Board(("oo.", ".oo")), Board(("o", "o")), Board((".o", "oo")))


def subsets(things):
    return [part for many in range(len(things) + 1) for part in itertools.combinations(things, many)]


def pictures(board):
    return [Picture(board, dots) for dots in subsets(board.dots)]


def deads(board):
    pairs = itertools.product(subsets(range(board.height)), subsets(range(board.width)))
    return [Dead(board, rows, columns) for rows, columns in pairs]


class TurnedTest(unittest.TestCase):
    def check_operators(self, one, other):
        self.assertEqual(~(one | other), ~one | ~other)
        self.assertEqual(~(one & other), ~one & ~other)
        self.assertEqual(~(one - other), ~one - ~other)
        self.assertEqual(~(one ^ other), ~one ^ ~other)
        self.assertEqual(one.is_within(other), (~one).is_within(~other))
        self.assertEqual(one == other, ~one == ~other)
        self.assertEqual(len(one), len(~one))

    def test_pictures(self):
        for board in BOARDS:
            for one, other in itertools.product(pictures(board), repeat=2):
                with self.subTest(board.rows, one=one.dots, other=other.dots):
                    self.check_operators(one, other)

    def test_deads(self):
        for board in BOARDS:
            for one, other in itertools.product(deads(board), repeat=2):
                with self.subTest(board.rows, one=one.wires, other=other.wires):
                    self.check_operators(one, other)
                    self.assertEqual(~one.over(other), (~one).under(~other))
                    self.assertEqual(~one.under(other), (~one).over(~other))

    def test_pictures_less_what_is_dead(self):
        for board in BOARDS:
            for picture, dead in itertools.product(pictures(board), deads(board)):
                with self.subTest(board.rows, picture=picture.dots, dead=dead.wires):
                    self.assertEqual(~(picture - dead), ~picture - ~dead)

    def test_members(self):
        for board in BOARDS:
            for picture in pictures(board):
                for row, column in board.dots:
                    self.assertEqual((row, column) in picture, (column, row) in ~picture)
                    self.assertIn((column, row), ~board)
            for dead in deads(board):
                for number in range(3):
                    self.assertEqual(("row", number) in dead, ("column", number) in ~dead)
                    self.assertEqual(("column", number) in dead, ("row", number) in ~dead)

    def test_drawn(self):
        for board in BOARDS:
            for picture in pictures(board):
                self.assertEqual(drawn(~board, tuple("".join(row) for row in zip(*picture.rows))), ~picture)


if __name__ == "__main__":
    unittest.main()
