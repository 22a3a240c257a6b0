"""The rules of the Python subset that can be read off the files of the package."""

import ast
import builtins
import pathlib
import re
import unittest

PACKAGE = pathlib.Path(__file__).resolve().parent.parent / "wiresindark"
FILES = sorted(PACKAGE.glob("*.py"))
TREES = {path.stem: ast.parse(path.read_text(encoding="utf-8")) for path in FILES}
LIBRARY = {
    "heapq": "heappush heappop heapify heapreplace heappushpop".split(),
    "math": "gcd lcm isqrt comb perm factorial".split(),
    "itertools": "product combinations permutations chain accumulate pairwise islice zip_longest".split(),
    "collections": ["defaultdict"],
    "__future__": ["annotations"],
}
BUILTINS = (
    "len range enumerate zip min max sum abs sorted reversed int str bool bytes list tuple dict set frozenset isinstance "
    "ord repr any all divmod pow getattr hasattr setattr iter next map super Exception ValueError TypeError KeyError "
    "IndexError LookupError ZeroDivisionError ArithmeticError OverflowError RuntimeError NotImplementedError "
    "AttributeError StopIteration NotImplemented property staticmethod classmethod object float"
).split()
UNUSED_WORDS = (
    "type typing typing_extensions enum Enum IntEnum StrEnum Flag IntFlag Generic Protocol ABC ABCMeta namedtuple "
    "NamedTuple TypedDict TYPE_CHECKING abstractmethod"
).split()
SPECIAL = (
    "init eq repr str len enter exit call iter lt le gt ge ne add sub mul floordiv mod pow and or xor lshift rshift "
    "radd rsub rmul rfloordiv rmod rand ror rxor rlshift rrshift iadd isub imul ifloordiv imod ipow iand ior ixor "
    "ilshift irshift neg pos invert abs bool contains getitem setitem"
).split()
METHODS = (
    "append clear copy count endswith extend find get index insert isalnum isalpha isdigit islower isspace isupper items "
    "join keys ljust lower lstrip partition pop remove replace reverse rfind rjust rpartition rsplit rstrip setdefault "
    "split splitlines startswith strip update upper values zfill bit_length"
).split()
# Generator expressions are allowed in a few places; the package does without them.
FORBIDDEN_NODES = (
    ast.Global, ast.AsyncFunctionDef, ast.AsyncFor, ast.AsyncWith, ast.Await, ast.Div, ast.MatMult, ast.GeneratorExp,
)


def nodes():
    return [(name, node) for name, tree in TREES.items() for node in ast.walk(tree)]


class LanguageTest(unittest.TestCase):
    def test_the_folder_holds_plain_files_alone(self):
        others = [path.name for path in PACKAGE.iterdir() if path not in FILES and path.name != "__pycache__"]
        self.assertEqual(others, [])
        self.assertIn("__init__", TREES)
        for name in TREES:
            self.assertRegex(name, r"\A(__init__|__main__|[a-z][a-z0-9_]*)\Z")
            self.assertFalse(name != "__init__" and hasattr(builtins, name) or name.startswith("test"), name)

    def test_sizes_and_characters(self):
        for path in FILES:
            text = path.read_text(encoding="utf-8")
            with self.subTest(path.name):
                self.assertRegex(text, r"\A[ -~\n]*\Z")
                self.assertLessEqual(len(text.splitlines()), 399)
                self.assertLessEqual(max(len(line) for line in text.splitlines()), 120)
        for name, node in nodes():
            if isinstance(node, ast.FunctionDef):
                self.assertLessEqual(node.end_lineno - node.lineno + 1, 40, (name, node.name))

    def test_imports(self):
        for name, node in nodes():
            if isinstance(node, ast.Import):
                self.assertEqual((name, [part.name for part in node.names]), ("__main__", ["sys"]))
            if isinstance(node, ast.ImportFrom):
                with self.subTest(name, line=node.lineno):
                    self.assertEqual(node.level, 0)
                    self.assertTrue(all(part.asname is None for part in node.names))
                    self.check_source(node.module, [part.name for part in node.names])

    def check_source(self, module, names):
        if module in LIBRARY:
            self.assertLessEqual(set(names), set(LIBRARY[module]))
            return
        package, _, file = module.partition(".")
        self.assertEqual(package, "wiresindark")
        bound = []
        for node in TREES[file].body:
            if isinstance(node, (ast.FunctionDef, ast.ClassDef)):
                bound.append(node.name)
            if isinstance(node, ast.Assign):
                bound.append(node.targets[0].id)
        self.assertLessEqual(set(names), set(bound))

    def test_module_level(self):
        allowed = (ast.Import, ast.ImportFrom, ast.FunctionDef, ast.ClassDef, ast.Assign, ast.Expr)
        for name, tree in TREES.items():
            for place, node in enumerate(tree.body):
                with self.subTest(name, line=node.lineno):
                    self.assertIsInstance(node, allowed)
                    self.assertTrue(not isinstance(node, ast.Expr) or place == 0 and ast.get_docstring(tree))

    def decorators(self, node):
        return {"property", "staticmethod", "classmethod", f"{node.name}.setter"}

    def test_statements_and_decorators(self):
        for name, node in nodes():
            with self.subTest(name, line=getattr(node, "lineno", None)):
                self.assertNotIsInstance(node, FORBIDDEN_NODES)
                if isinstance(node, ast.FunctionDef):
                    self.assertLessEqual({ast.unparse(mark) for mark in node.decorator_list}, self.decorators(node))
                    if node.name.startswith("__"):
                        self.assertIn(node.name, [f"__{word}__" for word in SPECIAL])
                if isinstance(node, ast.Constant):
                    self.assertNotIsInstance(node.value, (float, complex))

    def test_names(self):
        bound = [name for name in vars(builtins) if not name.startswith("_")]
        for name, node in nodes():
            with self.subTest(name, line=getattr(node, "lineno", None)):
                if isinstance(node, ast.Name) and node.id in bound:
                    self.assertIsInstance(node.ctx, ast.Load)
                    self.assertIn(node.id, BUILTINS)
                if isinstance(node, ast.arg):
                    self.assertNotIn(node.arg, bound)
                if isinstance(node, (ast.FunctionDef, ast.ClassDef)):
                    self.assertNotIn(node.name, BUILTINS)

    def test_words(self):
        for name, node in nodes():
            if isinstance(node, (ast.Name, ast.Attribute)):
                self.assertNotIn(node.id if isinstance(node, ast.Name) else node.attr, UNUSED_WORDS)
            if isinstance(node, ast.Constant) and isinstance(node.value, str):
                self.assertFalse("%" in node.value or re.search(r"\A__.*__\Z", node.value), (name, node.lineno))

    def test_names_of_a_file_are_not_used_again(self):
        for name, tree in TREES.items():
            taken = [node.name for node in ast.walk(tree) if isinstance(node, ast.ClassDef)]
            for node in tree.body:
                if isinstance(node, ast.ImportFrom):
                    taken += [part.name for part in node.names]
            for node in ast.walk(tree):
                if isinstance(node, ast.Name) and isinstance(node.ctx, ast.Store):
                    self.assertNotIn(node.id, taken, (name, node.lineno))
                if isinstance(node, ast.arg):
                    self.assertNotIn(node.arg, taken, (name, node.lineno))

    def test_names_of_a_file_are_bound_once(self):
        for name, tree in TREES.items():
            bound = []
            for node in tree.body:
                if isinstance(node, ast.ImportFrom):
                    bound += [part.name for part in node.names]
                if isinstance(node, (ast.FunctionDef, ast.ClassDef)):
                    bound.append(node.name)
                if isinstance(node, ast.Assign):
                    bound += [target.id for target in node.targets]
            self.assertEqual(sorted(bound), sorted(set(bound)), name)

    def test_what_is_imported_is_used(self):
        for name, tree in TREES.items():
            used = {node.id for node in ast.walk(tree) if isinstance(node, ast.Name)}
            for node in tree.body:
                if isinstance(node, ast.ImportFrom):
                    self.assertLessEqual({part.name for part in node.names}, used, name)

    def test_no_circles_of_imports(self):
        below = {name: set() for name in TREES}
        for name, node in nodes():
            if isinstance(node, ast.ImportFrom) and node.module.startswith("wiresindark."):
                below[name].add(node.module.partition(".")[2])
        while below:
            free = [name for name, needs in below.items() if not needs]
            self.assertTrue(free, below)
            below = {name: needs - set(free) for name, needs in below.items() if name not in free}

    def test_methods_and_attributes(self):
        methods, stored = set(METHODS), set()
        for _, node in nodes():
            if isinstance(node, ast.ClassDef):
                methods |= {part.name for part in node.body if isinstance(part, ast.FunctionDef)}
            if isinstance(node, ast.Attribute) and isinstance(node.ctx, ast.Store):
                stored.add(node.attr)
        for name, node in nodes():
            if isinstance(node, ast.Call) and isinstance(node.func, ast.Attribute):
                self.assertIn(node.func.attr, methods, (name, node.lineno))
            elif isinstance(node, ast.Attribute):
                self.assertIn(node.attr, methods | stored, (name, node.lineno))

    def test_classes_with_items_are_not_iterated(self):
        for name, node in nodes():
            if isinstance(node, ast.ClassDef):
                methods = {part.name: part for part in node.body if isinstance(part, ast.FunctionDef)}
                if "__getitem__" in methods:
                    (statement,) = methods["__iter__"].body
                    self.assertIsInstance(statement, ast.Raise, name)

    def test_nothing_is_assigned_in_place(self):
        """Rule L5 allows little of it where a class has an in-place operator; the package does without."""
        for name, node in nodes():
            self.assertNotIsInstance(node, (ast.AugAssign, ast.AnnAssign, ast.NamedExpr), name)

    def test_names_of_the_library_are_only_called(self):
        for name, tree in TREES.items():
            taken = []
            for node in tree.body:
                if isinstance(node, ast.ImportFrom) and node.module in LIBRARY:
                    taken += [part.name for part in node.names]
            called = [id(node.func) for node in ast.walk(tree) if isinstance(node, ast.Call) and not node.keywords]
            for node in ast.walk(tree):
                if isinstance(node, ast.Name) and node.id in taken:
                    self.assertIn(id(node), called, (name, node.lineno))

    def test_errors_that_are_caught(self):
        own = [node.name for node in TREES["errors"].body if isinstance(node, ast.ClassDef)]
        for name, node in nodes():
            if isinstance(node, ast.ExceptHandler):
                self.assertIsInstance(node.type, ast.Name, name)
                self.assertIn(node.type.id, own, (name, node.lineno))
            if isinstance(node, ast.Raise) and name != "errors":
                self.assertIsInstance(node.exc, ast.Call, (name, node.lineno))
                self.assertIn(node.exc.func.id, own + ["TypeError"], (name, node.lineno))

    def test_what_stands_in_finally(self):
        simple = (ast.Name, ast.Attribute, ast.Tuple)
        for name, node in nodes():
            for statement in node.finalbody if isinstance(node, ast.Try) else []:
                self.assertIsInstance(statement, ast.If, (name, statement.lineno))
                self.assertEqual(ast.unparse(statement.test).split(" ", 1)[1], "is None")
                for part in statement.body:
                    self.assertIsInstance(part, ast.Assign, (name, part.lineno))
                    self.assertEqual(len(part.targets), 1)
                    self.assertTrue(isinstance(part.value, simple) and isinstance(part.targets[0], simple))
                    inside = list(ast.walk(part.value)) + list(ast.walk(part.targets[0]))
                    self.assertTrue(all(isinstance(one, simple + (ast.Load, ast.Store)) for one in inside))

    def test_sets_stand_where_they_may(self):
        """A set is made only directly in sorted or len, or joined there with others: narrower than rule L24."""
        for name, tree in TREES.items():
            allowed = set()
            for node in ast.walk(tree):
                if isinstance(node, ast.Call) and isinstance(node.func, ast.Name) and node.func.id in ("sorted", "len"):
                    parts = [node.args[0]]
                    while parts:
                        part = parts.pop()
                        allowed.add(id(part))
                        parts += [part.left, part.right] if isinstance(part, ast.BinOp) else []
            for node in ast.walk(tree):
                made = isinstance(node, (ast.Set, ast.SetComp))
                made = made or isinstance(node, ast.Call) and isinstance(node.func, ast.Name) and node.func.id == "set"
                self.assertTrue(not made or id(node) in allowed, (name, getattr(node, "lineno", 0)))


if __name__ == "__main__":
    unittest.main()
