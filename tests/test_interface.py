"""Names, parameters and places of what the interface lists."""

import inspect
import unittest

from tests.values import NAMES
from wiresindark import (
    boards, books, desk, errors, explaining, films, journals, mixing, pictures, probes, strips, telling, texts, watch, watching,
)
from wiresindark.boards import Board
from wiresindark.books import Book
from wiresindark.desk import Desk
from wiresindark.explaining import Causes, explained, shows_explained, stair
from wiresindark.films import Film, running, shown
from wiresindark.journals import read_journal
from wiresindark.mixing import mixed, shows_mixed
from wiresindark.pictures import Dead, Picture, drawn
from wiresindark.strips import strips_alike
from wiresindark.telling import expected, least_dead, surely, told
from wiresindark.texts import read_seen, show_seen
from wiresindark.watch import Watch
from wiresindark.watching import choose, clear, mixups, most_dead, sure, wait

BOOK_TEXT = "board\n  oo\nfilm a\n  dark 1"
WATCH = "__init__ pass_by die mend look told surely expected undo redo tried copy journal __iadd__ __eq__".split()
SETS = "__or__ __and__ __sub__ __xor__ __len__ __contains__ __invert__ __eq__ is_within".split()


def defaults(call):
    return [(name, given.default) for name, given in inspect.signature(call).parameters.items()]


class InterfaceTest(unittest.TestCase):
    def test_methods_stand_in_the_class_itself(self):
        listed = [
            (Board, "__init__ __contains__ __len__ __invert__ __eq__".split()),
            (Picture, SETS + ["__init__"]),
            (Dead, SETS + ["__init__", "over", "under"]),
            (Film, "__init__ __len__ __getitem__ __rshift__ __add__ __mul__ __eq__ shows".split()),
            (Causes, "__init__ __len__ __getitem__ __contains__".split()),
            (Book, "__init__ __getitem__ __contains__ __eq__".split()),
            (Watch, WATCH),
            (Desk, "__init__ say".split()),
        ]
        for kind, names in listed:
            for name in names:
                with self.subTest(kind.__name__, name=name):
                    self.assertTrue(inspect.isfunction(vars(kind).get(name)))

    def test_attributes_are_set_on_each_object(self):
        board = Board(("oo",))
        film = Film((Picture(board),))
        causes = Causes(film, ((0, Picture(board)),))
        book = Book(BOOK_TEXT)
        live = Watch(book, "a")
        looks = {"tick": int, "dead": Dead, "seen": tuple, "seen_dying": tuple, "events": tuple}
        named = {"number": int, "always": Dead, "never": Dead, "first": Dead, "last": Dead, "blocks": tuple, "arrows": tuple}
        listed = [
            (film, {"pictures": tuple, "board": Board}),
            (causes, named),
            (book, {"text": str, "board": Board, "signs": tuple, "names": tuple, "films": tuple}),
            (live, {"book": Book, "name": str, "begin": int, **looks}),
            (live.copy(), {"book": Book, "name": str, "begin": int, **looks}),
            (read_journal(live.journal()), {"book": Book, "name": str, "begin": int, **looks}),
            (Desk(live), {"watch": Watch}),
            (board, {"rows": tuple, "height": int, "width": int, "dots": tuple, "wires": tuple, "is_full": bool}),
            (Picture(board), {"board": Board, "dots": tuple, "rows": tuple}),
            (Dead(board), {"board": Board, "rows": tuple, "columns": tuple, "wires": tuple, "dots": tuple}),
        ]
        for thing, names in listed:
            for name, kind in names.items():
                with self.subTest(thing.__class__.__name__, name=name):
                    self.assertIs(vars(thing)[name].__class__, kind)
        for name in NAMES:
            self.assertEqual(vars(getattr(errors, name)(5)), {"value": 5})

    def test_parameters(self):
        none = inspect.Parameter.empty
        self.assertEqual(defaults(Board), [("rows", none)])
        self.assertEqual(defaults(Picture), [("board", none), ("dots", ())])
        self.assertEqual(defaults(Dead), [("board", none), ("rows", ()), ("columns", ())])
        self.assertEqual(defaults(drawn), [("board", none), ("rows", none)])
        for method in (Picture.is_within, Dead.is_within, Dead.over, Dead.under, Film.shows):
            self.assertEqual(defaults(method), [("self", none), ("other", none)])

    def test_parameters_of_functions(self):
        wires, dying, k = ("alive", ()), ("dying", False), "k"
        listed = [
            (Film, ["pictures"], []),
            (running, ["board", "strip"], []),
            (shown, ["film", "looks", "dead"], []),
            (explained, ["film", "seen"], [wires, dying]),
            (shows_explained, ["film", "seen", "value"], [wires, dying]),
            (Causes, ["film", "seen"], [wires, dying]),
            (stair, ["film", "seen"], []),
            (told, ["films", "seen", k], [dying]),
            (least_dead, ["films", "seen"], [dying]),
            (surely, ["films", "seen", k], [dying]),
            (expected, ["films", "seen", k, "tick"], []),
            (mixed, ["one", "other", "looks", k], []),
            (shows_mixed, ["one", "other", "looks", k, "value"], []),
            (strips_alike, ["board", "strip", "second", k], []),
            (probes.probes, ["board", "offers", k], []),
            (mixups, ["films", "looks", k], []),
            (clear, ["films", "looks", k], []),
            (Book, ["text"], []),
            (Desk, ["watch"], []),
            (Desk.say, ["self", "line"], []),
            (show_seen, ["seen"], []),
            (read_seen, ["board", "text"], []),
            (read_journal, ["text"], []),
            (Watch.die, ["self", "wire"], []),
            (Watch.mend, ["self", "wire"], []),
            (Watch.look, ["self"], []),
            (Watch.told, ["self", k], [dying]),
            (Watch.surely, ["self", k], [dying]),
            (Watch.expected, ["self", k, "tick"], []),
            (Watch.undo, ["self"], []),
            (Watch.redo, ["self"], []),
            (Watch.tried, ["self", "look"], [("keep", False)]),
            (Watch.copy, ["self"], []),
            (Watch.journal, ["self"], []),
        ]
        for call, names, named in listed:
            with self.subTest(call.__name__):
                given = list(inspect.signature(call).parameters.values())
                self.assertEqual(defaults(call), [(name, inspect.Parameter.empty) for name in names] + named)
                kinds = [inspect.Parameter.POSITIONAL_OR_KEYWORD] * len(names)
                self.assertEqual([part.kind for part in given], kinds + [inspect.Parameter.KEYWORD_ONLY] * len(named))

    def test_parameters_that_can_be_left_out(self):
        none, parts = inspect.Parameter.empty, ("parts", None)
        self.assertEqual(defaults(sure), [("films", none), ("looks", none), ("k", none), parts])
        self.assertEqual(defaults(wait), [("films", none), ("k", none), parts])
        self.assertEqual(defaults(most_dead), [("films", none), ("looks", none), parts])
        self.assertEqual(defaults(choose), [("films", none), ("offers", none), ("k", none), parts])
        self.assertEqual(defaults(Watch), [("book", none), ("name", none), ("begin", 0)])
        self.assertEqual(defaults(Watch.pass_by), [("self", none), ("many", 1)])
        for call in (sure, wait, most_dead, choose, Watch, Watch.pass_by):
            kinds = [part.kind for part in inspect.signature(call).parameters.values()]
            self.assertEqual(kinds, [inspect.Parameter.POSITIONAL_OR_KEYWORD] * len(kinds))

    def test_defined_where_they_are_listed(self):
        listed = [
            (boards, [Board]),
            (pictures, [Picture, Dead, drawn]),
            (films, [Film, running, shown]),
            (explaining, [explained, shows_explained, Causes, stair]),
            (telling, [told, least_dead, surely, expected]),
            (mixing, [mixed, shows_mixed]),
            (watching, [sure, wait, most_dead, choose, mixups, clear]),
            (strips, [strips_alike]),
            (probes, [probes.probes]),
            (books, [Book]),
            (watch, [Watch]),
            (texts, [show_seen, read_seen]),
            (journals, [read_journal]),
            (desk, [Desk]),
            (errors, [errors.WireError] + [getattr(errors, name) for name in NAMES]),
        ]
        for module, things in listed:
            for thing in things:
                with self.subTest(thing.__name__):
                    self.assertEqual(thing.__module__, module.__name__)
                    self.assertIs(vars(module)[thing.__name__], thing)


if __name__ == "__main__":
    unittest.main()
