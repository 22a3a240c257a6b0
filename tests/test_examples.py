"""The examples of the document, as they stand there, and those of README.md."""

import doctest
import pathlib
import unittest

BOARDS_AND_PICTURES = r"""
>>> from wiresindark.boards import Board
>>> from wiresindark.pictures import Dead, Picture, drawn
>>> board = Board(('ooo', 'ooo', 'oo.'))
>>> bar = drawn(board, ('#oo', '#oo', '#o.'))
>>> [len(board), bar.dots, (bar - Dead(board, rows=(1,))).rows, Dead(board, (2,), (2,)).dots]
[8, ((0, 0), (1, 0), (2, 0)), ('#oo', 'ooo', '#o.'), ((0, 2), (1, 2), (2, 0), (2, 1))]
>>> [Dead(board, (0,), (1,)).over(Dead(board, (1,), (1, 2))).wires, (~board).rows, (1, 2) in bar, bar.is_within(Picture(board))]
[(('column', 1), ('row', 0), ('row', 1)), ('ooo', 'ooo', 'oo.'), False, False]
"""

FILMS = r"""
>>> from wiresindark.films import Film, running, shown
>>> film = Film((bar, drawn(board, ('o#o', 'o#o', 'o#.')), drawn(board, ('oo#', 'oo#', 'oo.'))))
>>> [film[5].rows, (film >> 1)[0].rows, len(film * 2), (film + film).shows(film)]
[('oo#', 'oo#', 'oo.'), ('o#o', 'o#o', 'o#.'), 6, True]
>>> [picture.rows for picture in running(board, ((0,), (1, 2))).pictures]
[('#o#', 'o#o', 'o#.'), ('o#o', '#o#', '#o.')]
>>> seen = shown(film, (0, 1), Dead(board, (1,), (1,)))
>>> [picture.rows for tick, picture in seen]
[('#oo', 'ooo', '#o.'), ('ooo', 'ooo', 'oo.')]
"""

EXPLAINING = r"""
>>> from wiresindark.explaining import Causes, explained, shows_explained, stair
>>> causes = Causes(film, seen)
>>> [causes.number, len(causes), causes[0].wires, stair(film, seen)]
[2, 1, (('column', 1), ('row', 1)), ((1, 1),)]
>>> shows_explained(film, seen, ('explained', Dead(board, (1,), (1,)), ((0, (1, 0)), (1, (0, 1)))))
True
>>> explained(film >> 1, seen)
('stray', 0, (0, 0))
>>> explained(film, seen, alive=(('row', 1),))[:4]
('barred', 0, (1, 0), ())
>>> none = ((0, drawn(board, ('ooo', 'ooo', 'oo.'))),)
>>> corner = Film((drawn(board, ('#oo', 'o#o', 'oo.')),))
>>> corners = Causes(corner, none)
>>> [len(corners), corners.blocks, corners.arrows, corners.first.wires, corners.last.wires]
[4, (((0,), (0,)), ((1,), (1,))), (), (('column', 0), ('column', 1)), (('row', 0), ('row', 1))]
>>> hook = Film((drawn(board, ('##o', 'o#o', 'oo.')),))
>>> [Causes(hook, none).arrows, [Causes(hook, none)[number].wires for number in (0, 1, 2)]]
[((1, 0),), [(('column', 0), ('column', 1)), (('column', 1), ('row', 0)), (('row', 0), ('row', 1))]]
"""

TELLING = r"""
>>> from wiresindark.telling import expected, surely, told
>>> told((film,), seen, 2)
((0, 0, 2),)
>>> [row.wires for row in surely((film,), seen, 2)]
[(('column', 1), ('row', 1)), (('column', 0), ('column', 2), ('row', 0), ('row', 2))]
>>> [picture.rows for picture in expected((film,), seen, 3, 2)]
[('ooo', 'ooo', 'oo.'), ('##o', '###', '##.')]
"""

MIXING = r"""
>>> from wiresindark.mixing import mixed, shows_mixed
>>> still = Film((drawn(board, ('#oo', '#oo', 'oo.')),))
>>> lower = Film((drawn(board, ('#oo', 'ooo', '#o.')),))
>>> [mixed(still, lower, (0,), 0)[0], shows_mixed(still, lower, (0,), 0, ('apart', ('more', 0, ((1, 0),))))]
['apart', True]
>>> [mixed(still, lower, (0,), 1)[0], shows_mixed(still, lower, (0,), 1, ('mixed', Dead(board, (1,)), Dead(board, (2,))))]
['mixed', True]
>>> tree = ('split', 0, (1, 0), ('split', 1, (2, 0), ('more', 0, ()), ('more', 0, ())), ('more', 0, ()))
>>> shows_mixed(still, lower, (0,), 1, ('apart', tree))
False
"""

WATCHING = r"""
>>> from wiresindark.watching import clear, mixups, sure, wait
>>> [sure((film,), (0,), 0), wait((film,), 1)[0], mixups((still, lower, film), (0, 1, 2), 1), clear((still, lower, film), (0, 1, 2), 1)]
[None, 2, ((0, 1),), (0, 2)]
"""

STRIPS_AND_PROBES = r"""
>>> from wiresindark.probes import probes
>>> from wiresindark.strips import strips_alike
>>> full = Board(('ooo', 'ooo', 'ooo'))
>>> [strips_alike(full, ((0,), (0, 1)), ((0, 2), (0,)), 1) is None, strips_alike(full, ((0,),), ((1,),), 1)]
[False, None]
>>> [probes(full, (Picture(full), Picture(full, full.dots)), 2), probes(board, (bar,), 1)[0], probes(board, film.pictures, 1)]
[('probes', (1,)), 'none', ('probes', (0, 1, 2))]
"""

BOOKS = r"""
>>> from wiresindark.books import Book
>>> text = 'board\n  ooooo\n  ooooo\nsign i\n  #\n  #\nsign l\n  #.\n  ##\nfilm a\n  still i,l 2\n  dark 1\nfilm b\n  run i 2'
>>> book = Book(text)
>>> [book.names, [picture.rows for picture in book['a'].pictures], len(book['b']), book['b'][1].rows]
[('a', 'b'), [('#o#oo', '#o##o'), ('#o#oo', '#o##o'), ('ooooo', 'ooooo')], 3, ('oo#oo', 'oo#oo')]
"""

WATCH = r"""
>>> from wiresindark.watch import Watch
>>> watch = Watch(book, 'a')
>>> [watch.die(('column', 2)), watch.look().rows, watch.pass_by(2), watch.look().rows, watch.told(1)]
[None, ('#oooo', '#oo#o'), None, ('ooooo', 'ooooo'), ((0, 0, 1),)]
"""

TEXTS = r"""
>>> from wiresindark.texts import show_seen
>>> [watch.journal().split('\n')[-5:], show_seen(watch.seen).split('\n')[:4]]
[['watch a 0', 'die column 2', 'look', 'pass 2', 'look'], ['look 0', '  #oooo', '  #oo#o', 'look 2']]
"""

DESK = r"""
>>> from wiresindark.desk import Desk
>>> desk = Desk(watch)
>>> [desk.say(line) for line in ('told 1', 'dead 1', 'alive 1', 'undo', 'events')]
['a 0 1', 'column 2', 'column 0,column 1,column 3,column 4,row 0,row 1', 'ok', '3']
"""

# Each section goes on where the one ahead of it ended.
SECTIONS = (
    ("sections 4 and 5", BOARDS_AND_PICTURES, 6),
    ("section 6", FILMS, 6),
    ("section 7", EXPLAINING, 12),
    ("section 8", TELLING, 4),
    ("section 9", MIXING, 7),
    ("section 10", WATCHING, 2),
    ("sections 11 and 12", STRIPS_AND_PROBES, 5),
    ("section 13", BOOKS, 4),
    ("section 14", WATCH, 3),
    ("section 15", TEXTS, 2),
    ("section 16", DESK, 3),
)


class ExamplesTest(unittest.TestCase):
    def run_text(self, name, text, known, many):
        """Runs many examples; what they know behind them is returned."""
        example = doctest.DocTestParser().get_doctest(text, known, name, None, 0)
        said = []
        result = doctest.DocTestRunner().run(example, out=said.append, clear_globs=False)
        with self.subTest(name):
            self.assertEqual((result.failed, result.attempted), (0, many), "".join(said))
        return example.globs

    def test_sections(self):
        known = {}
        for name, text, many in SECTIONS:
            known = self.run_text(name, text, known, many)

    def test_readme(self):
        text = (pathlib.Path(__file__).resolve().parent.parent / "README.md").read_text(encoding="utf-8")
        self.run_text("README.md", text.replace("```", ""), {}, text.count(">>> "))


if __name__ == "__main__":
    unittest.main()
