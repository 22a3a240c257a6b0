"""Names, parameters and places of what the interface lists."""

import inspect
import unittest

from tests.values import NAMES
from wiresindark import boards, errors, pictures
from wiresindark.boards import Board
from wiresindark.pictures import Dead, Picture, drawn

SETS = "__or__ __and__ __sub__ __xor__ __len__ __contains__ __invert__ __eq__ is_within".split()


def defaults(call):
    return [(name, given.default) for name, given in inspect.signature(call).parameters.items()]


class InterfaceTest(unittest.TestCase):
    def test_methods_stand_in_the_class_itself(self):
        listed = [
            (Board, "__init__ __contains__ __len__ __invert__ __eq__".split()),
            (Picture, SETS + ["__init__"]),
            (Dead, SETS + ["__init__", "over", "under"]),
        ]
        for kind, names in listed:
            for name in names:
                with self.subTest(kind.__name__, name=name):
                    self.assertTrue(inspect.isfunction(vars(kind).get(name)))

    def test_attributes_are_set_on_each_object(self):
        board = Board(("oo",))
        listed = [
            (board, {"rows": tuple, "height": int, "width": int, "dots": tuple, "wires": tuple, "is_full": bool}),
            (Picture(board), {"board": Board, "dots": tuple, "rows": tuple}),
            (Dead(board), {"board": Board, "rows": tuple, "columns": tuple, "wires": tuple, "dots": tuple}),
        ]
        for thing, names in listed:
            for name, kind in names.items():
                with self.subTest(thing.__class__.__name__, name=name):
                    self.assertIs(vars(thing)[name].__class__, kind)
        for name in NAMES:
            self.assertEqual(vars(getattr(errors, name)(5)), {"value": 5})

    def test_parameters(self):
        none = inspect.Parameter.empty
        self.assertEqual(defaults(Board), [("rows", none)])
        self.assertEqual(defaults(Picture), [("board", none), ("dots", ())])
        self.assertEqual(defaults(Dead), [("board", none), ("rows", ()), ("columns", ())])
        self.assertEqual(defaults(drawn), [("board", none), ("rows", none)])
        for method in (Picture.is_within, Dead.is_within, Dead.over, Dead.under):
            self.assertEqual(defaults(method), [("self", none), ("other", none)])

    def test_defined_where_they_are_listed(self):
        for module, things in ((boards, [Board]), (pictures, [Picture, Dead, drawn])):
            for thing in things:
                self.assertEqual(thing.__module__, module.__name__)


if __name__ == "__main__":
    unittest.main()
