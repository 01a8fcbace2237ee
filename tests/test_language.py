"""The package keeps the rules of the language that can be seen in its files."""

import ast
import builtins
import unittest
from pathlib import Path

PACKAGE = Path(__file__).resolve().parent.parent / "alljourneys"
LIBRARY = {"math": {"gcd", "lcm", "isqrt", "comb", "perm", "factorial"},
           "heapq": {"heappush", "heappop", "heapify", "heapreplace", "heappushpop"}}
BUILTINS = set("""len range enumerate zip min max sum abs sorted reversed int str bool bytes list tuple dict set
isinstance ord repr any all staticmethod divmod ValueError TypeError KeyError Exception""".split())
VALUE_METHODS = set("""append clear copy count endswith extend find get index insert isalnum isalpha isdigit islower
isspace isupper items join keys ljust lower lstrip partition pop remove replace reverse rfind rjust rpartition rsplit
rstrip setdefault split splitlines startswith strip update upper values zfill bit_length add discard isascii""".split())
DUNDERS = set("__init__ __eq__ __contains__ __and__ __enter__ __exit__ __len__ __iter__".split())
BARRED_NAMES = set("""register mro elements open input law version_info with_traceback add_note attrgetter breakpoint
builtins compile copyright credits delattr dir eval exec exit gc getattr globals hasattr help id importlib license
locals methodcaller os quit setattr super type vars sys""".split())
BARRED_WORDS = set("""type typing enum Enum Flag Generic Protocol ABC namedtuple NamedTuple TypedDict dataclass
overload contextmanager _wall _WallAttr""".split())
BARRED_NODES = (ast.Global, ast.AsyncFunctionDef, ast.AsyncFor, ast.AsyncWith, ast.Await, ast.YieldFrom,
                ast.GeneratorExp, ast.Div, ast.NamedExpr, ast.Match, ast.AnnAssign, ast.MatMult, ast.Nonlocal,
                ast.Set, ast.SetComp)
VALUE_ATTRIBUTES = {name for kind in (int, str, list, dict, set, bytes) for name in dir(kind)}


def files():
    return sorted(PACKAGE.glob("*.py"))


def trees():
    return {path.stem: ast.parse(path.read_text()) for path in files()}


def bound_names(tree):
    """All names that a file binds: variables, parameters, functions and classes, with their lines."""
    for node in ast.walk(tree):
        if isinstance(node, ast.Name) and isinstance(node.ctx, ast.Store):
            yield node.id, node.lineno
        elif isinstance(node, ast.arg):
            yield node.arg, node.lineno
        elif isinstance(node, (ast.FunctionDef, ast.ClassDef)):
            yield node.name, node.lineno


class LanguageTest(unittest.TestCase):
    def test_files(self):
        for path in PACKAGE.rglob("*"):
            if "__pycache__" not in path.parts:
                self.assertEqual(path.suffix, ".py", path)
        self.assertLessEqual(len(files()), 100)
        for path in files():
            text = path.read_text()
            lines = text.split("\n")
            self.assertLessEqual(len(lines) - 1, 399, path)
            self.assertEqual(path.name, path.name.lower())
            for number, line in enumerate(lines, 1):
                self.assertLessEqual(len(line), 120, (path.name, number))
                self.assertTrue(all(" " <= sign <= "~" for sign in line), (path.name, number))

    def test_functions_are_short(self):
        for stem, tree in trees().items():
            for node in ast.walk(tree):
                if isinstance(node, ast.FunctionDef):
                    self.assertLessEqual(node.end_lineno - node.lineno + 1, 40, (stem, node.name))

    def test_imports(self):
        defined = {stem: {node.name for node in tree.body if isinstance(node, (ast.FunctionDef, ast.ClassDef))}
                   | {target.id for node in tree.body if isinstance(node, ast.Assign) for target in node.targets}
                   for stem, tree in trees().items()}
        links = {}
        for stem, tree in trees().items():
            links[stem] = set()
            used = {node.id for node in ast.walk(tree) if isinstance(node, ast.Name)}
            for node in ast.walk(tree):
                self.assertNotIsInstance(node, ast.Import, stem)
                if not isinstance(node, ast.ImportFrom):
                    continue
                self.assertIn(node, tree.body)
                names = {alias.name for alias in node.names}
                self.assertTrue(all(alias.asname is None for alias in node.names))
                self.assertEqual(names - used, set(), (stem, "unused"))
                if node.module in LIBRARY:
                    self.assertLessEqual(names, LIBRARY[node.module])
                    continue
                package, _, other = node.module.partition(".")
                self.assertEqual(package, "alljourneys")
                self.assertLessEqual(names, defined[other], (stem, other))
                self.assertFalse([name for name in names if name.startswith("_")], stem)
                links[stem].add(other)
        ended = set()
        while len(ended) < len(links):
            free = {stem for stem in links if stem not in ended and links[stem] <= ended}
            self.assertTrue(free, ("a circle of imports", set(links) - ended))
            ended |= free

    def test_module_level(self):
        for stem, tree in trees().items():
            for node in tree.body:
                allowed = (ast.ImportFrom, ast.FunctionDef, ast.ClassDef, ast.Assign, ast.Expr)
                self.assertIsInstance(node, allowed, stem)
                if isinstance(node, ast.Expr):
                    self.assertIs(node, tree.body[0])
                if isinstance(node, ast.Assign):
                    ast.literal_eval(node.value)
                    self.assertEqual(len(node.targets), 1)
            names = [node.name for node in tree.body if isinstance(node, (ast.FunctionDef, ast.ClassDef))]
            names += [node.targets[0].id for node in tree.body if isinstance(node, ast.Assign)]
            names += [alias.name for node in tree.body if isinstance(node, ast.ImportFrom) for alias in node.names]
            self.assertEqual(len(names), len(set(names)), stem)

    def test_nodes(self):
        for stem, tree in trees().items():
            for node in ast.walk(tree):
                where = (stem, getattr(node, "lineno", None))
                self.assertNotIsInstance(node, BARRED_NODES, where)
                if isinstance(node, (ast.FunctionDef, ast.ClassDef)):
                    for decorator in node.decorator_list:
                        self.assertIn(decorator.id, ("staticmethod",), where)
                if isinstance(node, ast.Constant):
                    self.assertIn(type(node.value), (int, str, bool, type(None)), where)
                if isinstance(node, ast.Compare):
                    for kind, value in zip(node.ops, node.comparators):
                        if isinstance(kind, (ast.Is, ast.IsNot)):
                            self.assertIn(value.value, (None, True, False), where)
                if isinstance(node, ast.ExceptHandler):
                    self.assertTrue(node.type.id in names_of_errors(), where)
                if isinstance(node, ast.Raise) and node.exc is not None:
                    self.assertIsInstance(node.exc, ast.Call, where)
                    self.assertIn(node.exc.func.id, names_of_errors(), where)
                if isinstance(node, ast.Pow):
                    self.fail(where)
                if isinstance(node, ast.Yield):
                    self.assertEqual(stem, "waves")

    def test_names(self):
        taken = set(dir(builtins))
        for stem, tree in trees().items():
            self.assertNotIn(stem, taken)
            imported = {alias.name for node in tree.body if isinstance(node, ast.ImportFrom) for alias in node.names}
            imported |= {node.name for node in tree.body if isinstance(node, ast.ClassDef)}
            methods = {part for node in tree.body if isinstance(node, ast.ClassDef) for part in node.body
                       if isinstance(part, ast.FunctionDef)}
            classes = {node.lineno for node in tree.body if isinstance(node, ast.ClassDef)}
            method_lines = {part.lineno for part in methods}
            for name, line in bound_names(tree):
                where = (stem, name, line)
                self.assertTrue(name.isascii())
                if name.startswith("__"):
                    self.assertIn(name, DUNDERS, where)
                if line in method_lines and name in {part.name for part in methods}:
                    self.assertNotIn(name, BARRED_NAMES, where)
                    continue
                self.assertNotIn(name, taken, where)
                self.assertNotIn(name, BARRED_NAMES, where)
                if line not in classes:
                    self.assertNotIn(name, imported, where)

    def test_calls(self):
        own = {node.name for tree in trees().values() for node in ast.walk(tree) if isinstance(node, ast.FunctionDef)}
        for stem, tree in trees().items():
            known = {name for name, _ in bound_names(tree)} | BUILTINS
            known |= {alias.name for node in tree.body if isinstance(node, ast.ImportFrom) for alias in node.names}
            for node in ast.walk(tree):
                where = (stem, getattr(node, "lineno", None))
                if isinstance(node, ast.Name):
                    self.assertIn(node.id, known, where)
                if isinstance(node, ast.Call) and isinstance(node.func, ast.Attribute):
                    self.assertIn(node.func.attr, own | VALUE_METHODS, where)
                if isinstance(node, ast.Call):
                    for part in node.args:
                        if isinstance(part, ast.Starred):
                            self.assertIsInstance(part.value, (ast.Name, ast.Attribute), where)
                if isinstance(node, ast.Call) and isinstance(node.func, ast.Name):
                    for keyword in node.keywords:
                        if node.func.id in BUILTINS:
                            self.assertIn(keyword.arg, ("key", "default", "reverse", "start"), where)

    def test_attributes(self):
        """No name is a method and an attribute, and none has a name that values of Python have."""
        methods, attributes = set(), set()
        for tree in trees().values():
            for node in ast.walk(tree):
                if isinstance(node, ast.ClassDef):
                    methods |= {part.name for part in node.body if isinstance(part, ast.FunctionDef)}
                if isinstance(node, ast.Attribute) and isinstance(node.ctx, ast.Store):
                    attributes.add(node.attr)
        self.assertEqual(methods & attributes, set())
        self.assertEqual((methods - DUNDERS) & VALUE_ATTRIBUTES, set())
        self.assertEqual(attributes & VALUE_ATTRIBUTES - {"index", "count"}, set())

    def test_words(self):
        for stem, tree in trees().items():
            docstrings = {id(node.body[0].value) for node in ast.walk(tree)
                          if isinstance(node, (ast.Module, ast.FunctionDef, ast.ClassDef)) and node.body
                          and isinstance(node.body[0], ast.Expr)}
            for node in ast.walk(tree):
                where = (stem, getattr(node, "lineno", None))
                if isinstance(node, ast.Constant) and isinstance(node.value, str):
                    self.assertNotIn("%", node.value, where)
                    if id(node) not in docstrings:
                        self.assertFalse(BARRED_WORDS & set(node.value.replace(".", " ").split()), where)
                        self.assertNotIn("__", node.value, where)
                if isinstance(node, ast.Name):
                    self.assertNotIn(node.id, BARRED_WORDS, where)
                if isinstance(node, ast.Attribute):
                    self.assertNotIn(node.attr, BARRED_WORDS | {"args", "format"}, where)


def names_of_errors():
    return {node.name for node in trees()["errors"].body if isinstance(node, ast.ClassDef)} | {"KeyError"}


if __name__ == "__main__":
    unittest.main()
