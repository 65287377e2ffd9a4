"""The files of the package keep to the subset of Python in which they are written.

Only what can be seen plainly in the syntax is looked at here, often stricter than the rules.
"""

import ast
import builtins
import re
import unittest
from pathlib import Path

PACKAGE = Path(__file__).resolve().parent.parent / "twoheads"
FILES = sorted(PACKAGE.rglob("*.py"))
BUILTINS = set(
    "len range enumerate zip min max sum abs sorted reversed int str bool list tuple dict set "
    "isinstance ord repr any all divmod iter ValueError TypeError KeyError NotImplementedError "
    "NotImplemented property staticmethod classmethod".split()
)
METHODS = set(
    "append clear copy count endswith extend find get index insert isalnum isalpha isdigit "
    "islower isspace isupper items join keys ljust lower lstrip partition pop remove replace "
    "reverse rfind rjust rpartition rsplit rstrip setdefault split splitlines startswith strip "
    "update upper values zfill bit_length add discard".split()
)
DOUBLE = set(
    "init eq repr str len enter exit call iter lt le gt ge ne add sub mul floordiv mod pow and "
    "or xor lshift rshift radd rsub rmul rfloordiv rmod rand ror rxor rlshift rrshift iadd isub "
    "imul iand ior ixor neg pos invert abs bool contains getitem setitem".split()
)
BARRED = re.compile(
    r"\b(type|typing|typing_extensions|enum|Enum|IntEnum|StrEnum|Flag|IntFlag|Generic|Protocol|"
    r"ABC|ABCMeta|namedtuple|NamedTuple|TypedDict|TYPE_CHECKING|abstractmethod|register|mro|"
    r"elements|open|input|law|version_info|with_traceback|add_note)\b|dataclass|overload|"
    r"contextmanager|Meta\b|_wall|%"
)
STATEMENTS = (
    ast.Assign, ast.If, ast.While, ast.For, ast.Return, ast.Break, ast.Continue, ast.Pass,
    ast.Raise, ast.Delete, ast.With, ast.Try, ast.Expr, ast.FunctionDef, ast.ClassDef,
    ast.ImportFrom,
)
LIBRARY = {"heapq": {"heappush", "heappop"}, "math": {"lcm"}}
GENERATORS = ["blocks", "events", "lines", "moves", "steps"]
FUNCTION_LINES = 40
CHANGING = set("append clear extend insert pop remove reverse setdefault update".split())


def tree_of(path):
    return ast.parse(path.read_text())


def bound_names(tree):
    """All names that a file binds anywhere."""
    for node in ast.walk(tree):
        if isinstance(node, ast.Name) and isinstance(node.ctx, ast.Store):
            yield node.id
        elif isinstance(node, ast.arg):
            yield node.arg
        elif isinstance(node, ast.ExceptHandler) and node.name:
            yield node.name


def is_quiet(node):
    """Whether a function is a property or an operator that changes nothing."""
    if [told for told in node.decorator_list if isinstance(told, ast.Name) and told.id == "property"]:
        return True
    if [told for told in node.decorator_list if isinstance(told, ast.Attribute)]:
        return False  # A setter.
    word = node.name.strip("_")
    return node.name.startswith("__") and word not in ("init", "call", "setitem", "enter", "exit") and word[0] != "i"


def without_docstrings(source):
    """The code of a file, written anew without comments and docstrings."""
    tree = ast.parse(source)
    for node in ast.walk(tree):
        if isinstance(node, (ast.Module, ast.ClassDef, ast.FunctionDef)):
            if ast.get_docstring(node) is not None:
                node.body = node.body[1:] or [ast.Pass()]
    return ast.unparse(tree)


class LanguageTests(unittest.TestCase):
    def each(self):
        self.assertTrue(FILES)
        for path in FILES:
            yield path, tree_of(path)

    def test_files_and_characters(self):
        for path in PACKAGE.rglob("*"):
            if "__pycache__" not in path.parts:
                self.assertTrue(path.is_dir() or path.suffix == ".py", path)
        for path, _ in self.each():
            text = path.read_text()
            self.assertTrue(all(c == "\n" or " " <= c <= "~" for c in text))
            lines = text.split("\n")
            self.assertLess(len(lines), 400)
            self.assertLessEqual(max(map(len, lines)), 120)
            self.assertFalse([line for line in lines if line != line.rstrip()])

    def test_functions_are_small(self):
        for _, tree in self.each():
            for node in ast.walk(tree):
                if isinstance(node, ast.FunctionDef):
                    self.assertLessEqual(node.end_lineno - node.lineno + 1, FUNCTION_LINES, node.name)

    def test_imports(self):
        for _, tree in self.each():
            for node in ast.walk(tree):
                self.assertNotIsInstance(node, ast.Import)
                if isinstance(node, ast.ImportFrom) and node.module in LIBRARY:
                    self.assertLessEqual({alias.name for alias in node.names}, LIBRARY[node.module])
                    self.assertFalse([alias for alias in node.names if alias.asname])
                    self.only_called(tree, {alias.name for alias in node.names})
                elif isinstance(node, ast.ImportFrom):
                    self.assertEqual(node.level, 0)
                    self.assertTrue(node.module.startswith("twoheads."))
                    home = tree_of(PACKAGE / (node.module.split(".")[1] + ".py"))
                    defined = {n.name for n in home.body if hasattr(n, "name")}
                    defined |= {t.id for n in home.body if isinstance(n, ast.Assign) for t in n.targets}
                    for alias in node.names:
                        self.assertIsNone(alias.asname)
                        self.assertIn(alias.name, defined)

    def only_called(self, tree, names):
        """Checks that names of the library are called with arguments by position, and nothing else."""
        called = []
        for node in ast.walk(tree):
            if isinstance(node, ast.Call) and isinstance(node.func, ast.Name) and node.func.id in names:
                self.assertFalse(node.keywords)
                called.append(node.func)
        told = [node for node in ast.walk(tree) if isinstance(node, ast.Name) and node.id in names]
        self.assertEqual(len(told), len(called))

    def test_no_import_goes_round(self):
        ahead = {}
        for path, tree in self.each():
            ahead[path.stem] = {
                n.module.split(".")[1] for n in tree.body
                if isinstance(n, ast.ImportFrom) and n.module not in LIBRARY
            }
        while ahead:
            free = [name for name in ahead if not ahead[name]]
            self.assertTrue(free, ahead)
            for name in free:
                del ahead[name]
            ahead = {name: ahead[name] - set(free) for name in ahead}

    def test_module_level(self):
        for _, tree in self.each():
            self.assertIsNotNone(ast.get_docstring(tree))
            names = []
            for node in tree.body[1:]:
                if isinstance(node, ast.ImportFrom):
                    names.extend(alias.name for alias in node.names)
                elif isinstance(node, (ast.FunctionDef, ast.ClassDef)):
                    names.append(node.name)
                    self.assertIsNotNone(ast.get_docstring(node), node.name)
                else:
                    self.assertIsInstance(node, ast.Assign)
                    self.assertFalse([n for n in ast.walk(node) if isinstance(n, ast.Call)])
                    names.extend(target.id for target in node.targets)
            self.assertEqual(len(names), len(set(names)))
            inner = [n for n in bound_names(tree) if n in names]
            assigned = [t.id for n in tree.body if isinstance(n, ast.Assign) for t in n.targets]
            self.assertEqual(sorted(inner), sorted(assigned))

    def test_stars(self):
        """Behind a star in a call stand plain names only."""
        for _, tree in self.each():
            for node in ast.walk(tree):
                if isinstance(node, ast.Call):
                    for told in node.args:
                        if isinstance(told, ast.Starred):
                            self.assertIsInstance(told.value, ast.Name)

    def test_what_loops_go_over_stays(self):
        """Nothing is put into or taken out of what a loop goes over by name."""
        for _, tree in self.each():
            for loop in [node for node in ast.walk(tree) if isinstance(node, ast.For)]:
                over = {ast.unparse(node) for node in ast.walk(loop.iter) if isinstance(node, (ast.Name, ast.Attribute))}
                for node in [inner for row in loop.body for inner in ast.walk(row)]:
                    if isinstance(node, ast.Call) and isinstance(node.func, ast.Attribute) and node.func.attr in CHANGING:
                        self.assertNotIn(ast.unparse(node.func.value), over)
                    if isinstance(node, ast.Subscript) and isinstance(node.ctx, (ast.Store, ast.Del)):
                        self.assertNotIn(ast.unparse(node.value), over)

    def test_statements_and_expressions(self):
        barred = (
            ast.GeneratorExp, ast.AugAssign, ast.AnnAssign, ast.Global, ast.NamedExpr, ast.Div,
            ast.YieldFrom, ast.Await,
        )
        for _, tree in self.each():
            for node in ast.walk(tree):
                self.assertNotIsInstance(node, barred)
                if isinstance(node, ast.stmt):
                    self.assertIsInstance(node, STATEMENTS)
                if isinstance(node, ast.Constant):
                    self.assertNotIsInstance(node.value, float)
                if isinstance(node, ast.arg):
                    self.assertIsNone(node.annotation)

    def test_names(self):
        for _, tree in self.each():
            for name in bound_names(tree):
                self.assertNotIn(name, dir(builtins))
                self.assertNotIn("__", name)
            own = {n.id for n in ast.walk(tree) if isinstance(n, ast.Name)} & set(dir(builtins))
            self.assertLessEqual(own, BUILTINS)
            reads = [n for n in ast.walk(tree) if isinstance(n, ast.Name) and n.id == "_"]
            self.assertFalse([n for n in reads if not isinstance(n.ctx, ast.Store)])

    def test_what_is_reversed(self):
        for _, tree in self.each():
            for node in ast.walk(tree):
                if isinstance(node, ast.Call) and isinstance(node.func, ast.Name) and node.func.id == "reversed":
                    self.assertIsInstance(node.args[0], ast.Call)
                    self.assertIn(node.args[0].func.id, ("list", "tuple", "sorted", "range"))

    def test_generators_are_iterated_on_the_spot(self):
        for _, tree in self.each():
            loops = [node.iter for node in ast.walk(tree) if isinstance(node, (ast.For, ast.comprehension))]
            for node in ast.walk(tree):
                if isinstance(node, ast.Call) and isinstance(node.func, (ast.Name, ast.Attribute)):
                    name = node.func.id if isinstance(node.func, ast.Name) else node.func.attr
                    if name in GENERATORS:
                        self.assertIn(node, loops)

    def test_properties_and_operators_change_nothing(self):
        for _, tree in self.each():
            for node in ast.walk(tree):
                if isinstance(node, ast.FunctionDef) and is_quiet(node):
                    for inner in ast.walk(node):
                        self.assertFalse(isinstance(inner, ast.Attribute) and isinstance(inner.ctx, ast.Store), node.name)

    def test_words(self):
        for path, _ in self.each():
            self.assertIsNone(BARRED.search(without_docstrings(path.read_text())))

    def test_methods(self):
        methods, attributes, values = set(), set(), set()
        for _, tree in self.each():
            for node in ast.walk(tree):
                if isinstance(node, ast.ClassDef):
                    self.methods_once(node)
                    methods |= {n.name for n in node.body if isinstance(n, ast.FunctionDef)}
                    values |= {n.targets[0].id for n in node.body if isinstance(n, ast.Assign)}
                if isinstance(node, ast.Attribute) and isinstance(node.ctx, ast.Store):
                    attributes.add(node.attr)
        self.assertFalse(methods & attributes)
        self.assertFalse(values & (attributes | methods))
        self.assertFalse((methods | attributes) & set(dir(int) + dir(str) + dir(list) + dir(dict)) -
                         {f"__{word}__" for word in DOUBLE})
        for name in methods:
            if name.startswith("__"):
                self.assertIn(name[2:-2], DOUBLE)
        for _, tree in self.each():
            for node in ast.walk(tree):
                if isinstance(node, ast.Call) and isinstance(node.func, ast.Attribute):
                    self.assertIn(node.func.attr, methods | METHODS | {"test"})
                if isinstance(node, ast.Attribute) and isinstance(node.ctx, ast.Load):
                    self.assertIn(node.attr, methods | METHODS | attributes | values | {"setter"})

    def methods_once(self, made):
        """Checks that a class defines each method once, but for the setter behind its property."""
        told = [n for n in made.body if isinstance(n, ast.FunctionDef)]
        setters = [d for n in told for d in n.decorator_list if isinstance(d, ast.Attribute)]
        names = [n.name for n in told]
        self.assertEqual(len(names), len(set(names)) + len(setters))
        for setter in setters:
            self.assertEqual((setter.attr, names.count(setter.value.id)), ("setter", 2))

    def test_generators_have_names_of_their_own(self):
        names, generators = [], []
        for _, tree in self.each():
            for node in ast.walk(tree):
                if isinstance(node, ast.FunctionDef):
                    names.append(node.name)
                    if any(isinstance(n, ast.Yield) for n in ast.walk(node)):
                        generators.append(node.name)
        self.assertEqual(sorted(generators), GENERATORS)
        for name in generators:
            self.assertEqual(names.count(name), 1)


if __name__ == "__main__":
    unittest.main()
