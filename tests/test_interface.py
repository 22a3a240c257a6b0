"""Names, parameters and places of what the interface lists."""

import inspect
import unittest

from tests.values import NAMES
from wiresindark import boards, errors, explaining, films, mixing, pictures, telling
from wiresindark.boards import Board
from wiresindark.explaining import Causes, explained, shows_explained, stair
from wiresindark.films import Film, running, shown
from wiresindark.mixing import mixed, shows_mixed
from wiresindark.pictures import Dead, Picture, drawn
from wiresindark.telling import expected, least_dead, surely, told

SETS = "__or__ __and__ __sub__ __xor__ __len__ __contains__ __invert__ __eq__ is_within".split()


def defaults(call):
    return [(name, given.default) for name, given in inspect.signature(call).parameters.items()]


class InterfaceTest(unittest.TestCase):
    def test_methods_stand_in_the_class_itself(self):
        listed = [
            (Board, "__init__ __contains__ __len__ __invert__ __eq__".split()),
            (Picture, SETS + ["__init__"]),
            (Dead, SETS + ["__init__", "over", "under"]),
            (Film, "__init__ __len__ __getitem__ __rshift__ __add__ __mul__ __eq__ shows".split()),
            (Causes, "__init__ __len__ __getitem__ __contains__".split()),
        ]
        for kind, names in listed:
            for name in names:
                with self.subTest(kind.__name__, name=name):
                    self.assertTrue(inspect.isfunction(vars(kind).get(name)))

    def test_attributes_are_set_on_each_object(self):
        board = Board(("oo",))
        film = Film((Picture(board),))
        causes = Causes(film, ((0, Picture(board)),))
        named = {"number": int, "always": Dead, "never": Dead, "first": Dead, "last": Dead, "blocks": tuple, "arrows": tuple}
        listed = [
            (film, {"pictures": tuple, "board": Board}),
            (causes, named),
            (board, {"rows": tuple, "height": int, "width": int, "dots": tuple, "wires": tuple, "is_full": bool}),
            (Picture(board), {"board": Board, "dots": tuple, "rows": tuple}),
            (Dead(board), {"board": Board, "rows": tuple, "columns": tuple, "wires": tuple, "dots": tuple}),
        ]
        for thing, names in listed:
            for name, kind in names.items():
                with self.subTest(thing.__class__.__name__, name=name):
                    self.assertIs(vars(thing)[name].__class__, kind)
        for name in NAMES:
            self.assertEqual(vars(getattr(errors, name)(5)), {"value": 5})

    def test_parameters(self):
        none = inspect.Parameter.empty
        self.assertEqual(defaults(Board), [("rows", none)])
        self.assertEqual(defaults(Picture), [("board", none), ("dots", ())])
        self.assertEqual(defaults(Dead), [("board", none), ("rows", ()), ("columns", ())])
        self.assertEqual(defaults(drawn), [("board", none), ("rows", none)])
        for method in (Picture.is_within, Dead.is_within, Dead.over, Dead.under, Film.shows):
            self.assertEqual(defaults(method), [("self", none), ("other", none)])

    def test_parameters_of_functions(self):
        wires, dying, k = ("alive", ()), ("dying", False), "k"
        listed = [
            (Film, ["pictures"], []),
            (running, ["board", "strip"], []),
            (shown, ["film", "looks", "dead"], []),
            (explained, ["film", "seen"], [wires, dying]),
            (shows_explained, ["film", "seen", "value"], [wires, dying]),
            (Causes, ["film", "seen"], [wires, dying]),
            (stair, ["film", "seen"], []),
            (told, ["films", "seen", k], [dying]),
            (least_dead, ["films", "seen"], [dying]),
            (surely, ["films", "seen", k], [dying]),
            (expected, ["films", "seen", k, "tick"], []),
            (mixed, ["one", "other", "looks", k], []),
            (shows_mixed, ["one", "other", "looks", k, "value"], []),
        ]
        for call, names, named in listed:
            with self.subTest(call.__name__):
                given = list(inspect.signature(call).parameters.values())
                self.assertEqual(defaults(call), [(name, inspect.Parameter.empty) for name in names] + named)
                kinds = [inspect.Parameter.POSITIONAL_OR_KEYWORD] * len(names)
                self.assertEqual([part.kind for part in given], kinds + [inspect.Parameter.KEYWORD_ONLY] * len(named))

    def test_defined_where_they_are_listed(self):
        listed = [
            (boards, [Board]),
            (pictures, [Picture, Dead, drawn]),
            (films, [Film, running, shown]),
            (explaining, [explained, shows_explained, Causes, stair]),
            (telling, [told, least_dead, surely, expected]),
            (mixing, [mixed, shows_mixed]),
        ]
        for module, things in listed:
            for thing in things:
                with self.subTest(thing.__name__):
                    self.assertEqual(thing.__module__, module.__name__)
                    self.assertIs(vars(module)[thing.__name__], thing)


if __name__ == "__main__":
    unittest.main()
