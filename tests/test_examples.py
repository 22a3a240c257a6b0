"""The examples of the document, as they stand there."""

import doctest
import unittest

BOARDS_AND_PICTURES = r"""
>>> from wiresindark.boards import Board
>>> from wiresindark.pictures import Dead, Picture, drawn
>>> board = Board(('ooo', 'ooo', 'oo.'))
>>> bar = drawn(board, ('#oo', '#oo', '#o.'))
>>> [len(board), bar.dots, (bar - Dead(board, rows=(1,))).rows, Dead(board, (2,), (2,)).dots]
[8, ((0, 0), (1, 0), (2, 0)), ('#oo', 'ooo', '#o.'), ((0, 2), (1, 2), (2, 0), (2, 1))]
>>> [Dead(board, (0,), (1,)).over(Dead(board, (1,), (1, 2))).wires, (~board).rows, (1, 2) in bar, bar.is_within(Picture(board))]
[(('column', 1), ('row', 0), ('row', 1)), ('ooo', 'ooo', 'oo.'), False, False]
"""


class ExamplesTest(unittest.TestCase):
    def test_boards_and_pictures(self):
        example = doctest.DocTestParser().get_doctest(BOARDS_AND_PICTURES, {}, "sections 4 and 5", None, 0)
        told = []
        result = doctest.DocTestRunner().run(example, out=told.append)
        self.assertEqual((result.failed, result.attempted), (0, 6), "".join(told))


if __name__ == "__main__":
    unittest.main()
