"""The examples of the document, as they stand there."""

import doctest
import unittest

BOARDS_AND_PICTURES = r"""
>>> from wiresindark.boards import Board
>>> from wiresindark.pictures import Dead, Picture, drawn
>>> board = Board(('ooo', 'ooo', 'oo.'))
>>> bar = drawn(board, ('#oo', '#oo', '#o.'))
>>> [len(board), bar.dots, (bar - Dead(board, rows=(1,))).rows, Dead(board, (2,), (2,)).dots]
[8, ((0, 0), (1, 0), (2, 0)), ('#oo', 'ooo', '#o.'), ((0, 2), (1, 2), (2, 0), (2, 1))]
>>> [Dead(board, (0,), (1,)).over(Dead(board, (1,), (1, 2))).wires, (~board).rows, (1, 2) in bar, bar.is_within(Picture(board))]
[(('column', 1), ('row', 0), ('row', 1)), ('ooo', 'ooo', 'oo.'), False, False]
"""

FILMS = r"""
>>> from wiresindark.films import Film, running, shown
>>> film = Film((bar, drawn(board, ('o#o', 'o#o', 'o#.')), drawn(board, ('oo#', 'oo#', 'oo.'))))
>>> [film[5].rows, (film >> 1)[0].rows, len(film * 2), (film + film).shows(film)]
[('oo#', 'oo#', 'oo.'), ('o#o', 'o#o', 'o#.'), 6, True]
>>> [picture.rows for picture in running(board, ((0,), (1, 2))).pictures]
[('#o#', 'o#o', 'o#.'), ('o#o', '#o#', '#o.')]
>>> seen = shown(film, (0, 1), Dead(board, (1,), (1,)))
>>> [picture.rows for tick, picture in seen]
[('#oo', 'ooo', '#o.'), ('ooo', 'ooo', 'oo.')]
"""

EXPLAINING = r"""
>>> from wiresindark.explaining import Causes, explained, shows_explained, stair
>>> causes = Causes(film, seen)
>>> [causes.number, len(causes), causes[0].wires, stair(film, seen)]
[2, 1, (('column', 1), ('row', 1)), ((1, 1),)]
>>> shows_explained(film, seen, ('explained', Dead(board, (1,), (1,)), ((0, (1, 0)), (1, (0, 1)))))
True
>>> explained(film >> 1, seen)
('stray', 0, (0, 0))
>>> explained(film, seen, alive=(('row', 1),))[:4]
('barred', 0, (1, 0), ())
>>> none = ((0, drawn(board, ('ooo', 'ooo', 'oo.'))),)
>>> corner = Film((drawn(board, ('#oo', 'o#o', 'oo.')),))
>>> corners = Causes(corner, none)
>>> [len(corners), corners.blocks, corners.arrows, corners.first.wires, corners.last.wires]
[4, (((0,), (0,)), ((1,), (1,))), (), (('column', 0), ('column', 1)), (('row', 0), ('row', 1))]
>>> hook = Film((drawn(board, ('##o', 'o#o', 'oo.')),))
>>> [Causes(hook, none).arrows, [Causes(hook, none)[number].wires for number in (0, 1, 2)]]
[((1, 0),), [(('column', 0), ('column', 1)), (('column', 1), ('row', 0)), (('row', 0), ('row', 1))]]
"""

TELLING = r"""
>>> from wiresindark.telling import expected, surely, told
>>> told((film,), seen, 2)
((0, 0, 2),)
>>> [row.wires for row in surely((film,), seen, 2)]
[(('column', 1), ('row', 1)), (('column', 0), ('column', 2), ('row', 0), ('row', 2))]
>>> [picture.rows for picture in expected((film,), seen, 3, 2)]
[('ooo', 'ooo', 'oo.'), ('##o', '###', '##.')]
"""

MIXING = r"""
>>> from wiresindark.mixing import mixed, shows_mixed
>>> still = Film((drawn(board, ('#oo', '#oo', 'oo.')),))
>>> lower = Film((drawn(board, ('#oo', 'ooo', '#o.')),))
>>> [mixed(still, lower, (0,), 0)[0], shows_mixed(still, lower, (0,), 0, ('apart', ('more', 0, ((1, 0),))))]
['apart', True]
>>> [mixed(still, lower, (0,), 1)[0], shows_mixed(still, lower, (0,), 1, ('mixed', Dead(board, (1,)), Dead(board, (2,))))]
['mixed', True]
>>> tree = ('split', 0, (1, 0), ('split', 1, (2, 0), ('more', 0, ()), ('more', 0, ())), ('more', 0, ()))
>>> shows_mixed(still, lower, (0,), 1, ('apart', tree))
False
"""

# Each section goes on where the one ahead of it ended.
SECTIONS = (
    ("sections 4 and 5", BOARDS_AND_PICTURES, 6),
    ("section 6", FILMS, 6),
    ("section 7", EXPLAINING, 12),
    ("section 8", TELLING, 4),
    ("section 9", MIXING, 7),
)


class ExamplesTest(unittest.TestCase):
    def test_sections(self):
        known = {}
        for name, text, many in SECTIONS:
            example = doctest.DocTestParser().get_doctest(text, known, name, None, 0)
            said = []
            runner = doctest.DocTestRunner()
            result = runner.run(example, out=said.append, clear_globs=False)
            known = example.globs
            with self.subTest(name):
                self.assertEqual((result.failed, result.attempted), (0, many), "".join(said))


if __name__ == "__main__":
    unittest.main()
