"""The rules of the Python subset that can be seen in the text of the package's files."""

import ast
import builtins
import io
import pathlib
import re
import tokenize
import unittest

PACKAGE = pathlib.Path(__file__).resolve().parent.parent / "cardlines"
FILES = sorted([path for path in PACKAGE.glob("*.py")])
TREES = {path.stem: ast.parse(path.read_text()) for path in FILES}

BUILTINS = set("""len range enumerate zip min max sum abs sorted reversed int str bool bytes list tuple dict set frozenset
    isinstance ord repr any all divmod iter next property staticmethod classmethod super Exception ValueError TypeError
    KeyError IndexError LookupError ZeroDivisionError ArithmeticError OverflowError RuntimeError NotImplementedError
    AttributeError StopIteration NotImplemented""".split())
METHODS = set("""append clear copy count endswith extend find get index insert isalnum isalpha isdigit islower isspace
    isupper items join keys ljust lower lstrip partition pop remove replace reverse rfind rjust rpartition rsplit rstrip
    setdefault split splitlines startswith strip update upper values zfill bit_length title capitalize swapcase casefold
    center expandtabs removeprefix removesuffix rindex isascii isdecimal isnumeric istitle isidentifier isprintable
    translate maketrans add discard sort encode decode hex from_bytes""".split())
DOUBLE = set("""init eq repr str len enter exit call iter lt le gt ge ne add sub mul floordiv mod pow and or xor lshift
    rshift neg pos invert abs bool contains getitem setitem""".split())
BARRED_WORDS = """type typing typing_extensions enum Enum IntEnum StrEnum Flag IntFlag Generic Protocol ABC ABCMeta
    namedtuple NamedTuple TypedDict TYPE_CHECKING abstractmethod""".split()
BARRED_NAMES = set("""register mro elements open input version_info with_traceback add_note attrgetter breakpoint builtins
    compile copyright credits delattr dir eval exec exit gc getattr globals hasattr help id importlib license locals
    methodcaller os quit setattr type vars sys format format_map""".split())
STATEMENTS = (ast.Assign, ast.AugAssign, ast.AnnAssign, ast.If, ast.While, ast.For, ast.Return, ast.Break, ast.Continue,
              ast.Pass, ast.Raise, ast.Assert, ast.Delete, ast.Nonlocal, ast.Match, ast.With, ast.Try, ast.Expr,
              ast.FunctionDef, ast.ClassDef, ast.ImportFrom)


def nodes(*kinds):
    """All (file, node) of these kinds in the package."""
    return [(name, node) for name, tree in TREES.items() for node in ast.walk(tree) if isinstance(node, kinds)]


def bound_names(node):
    """The names that a node gives a meaning."""
    if isinstance(node, ast.Name) and not isinstance(node.ctx, ast.Load):
        return [node.id]
    if isinstance(node, ast.arg):
        return [node.arg]
    if isinstance(node, (ast.FunctionDef, ast.ClassDef)):
        return [node.name]
    if isinstance(node, ast.ImportFrom):
        return [name.asname or name.name for name in node.names]
    if isinstance(node, ast.ExceptHandler) and node.name:
        return [node.name]
    return []


def module_names(tree):
    return [name for row in tree.body for node in ([row] if not isinstance(row, ast.Assign) else row.targets)
            for name in bound_names(node)]


class Files(unittest.TestCase):
    def test_folder_holds_plain_files_alone(self):
        for path in PACKAGE.iterdir():
            if path.name != "__pycache__":
                self.assertRegex(path.name, r"\A(__init__|__main__|[a-z][a-z0-9_]*)[.]py\Z")
                self.assertTrue(path.stem.startswith("__") or not hasattr(builtins, path.stem))
        self.assertLessEqual(len(FILES), 100)

    def test_characters_and_lengths(self):
        for path in FILES:
            text = path.read_bytes().decode("ascii")
            self.assertEqual(re.findall(r"[^\n -~]", text), [], path.name)
            rows = text.split("\n")
            self.assertLessEqual(len(rows), 401, path.name)
            self.assertLessEqual(max([len(row) for row in rows]), 120, path.name)
        for name, node in nodes(ast.FunctionDef):
            self.assertLessEqual(node.end_lineno - node.lineno + 1, 40, f"{name}.{node.name}")

    def test_words_that_stand_nowhere(self):
        for path in FILES:
            text = path.read_text()
            for word in BARRED_WORDS:
                self.assertIsNone(re.search(rf"\b{word}\b", text), f"{path.name}: {word}")
            self.assertIsNone(re.search("dataclass|overload|contextmanager", text), path.name)

    def test_strings(self):
        for path in FILES:
            for token in tokenize.generate_tokens(io.StringIO(path.read_text()).readline):
                if token.type == tokenize.STRING:
                    self.assertEqual(re.findall(r"\\[^nt\\'\"\n]", token.string), [], path.name)
        for name, node in nodes(ast.Constant):
            self.assertNotIn("%", str(node.value), f"{name}:{node.lineno}")


class Modules(unittest.TestCase):
    def test_module_level(self):
        for name, tree in TREES.items():
            for place, row in enumerate(tree.body):
                if place == 0 and isinstance(row, ast.Expr):
                    self.assertIsInstance(row.value.value, str)
                    continue
                self.assertIsInstance(row, (ast.ImportFrom, ast.FunctionDef, ast.ClassDef, ast.Assign), name)
                if isinstance(row, ast.Assign):
                    self.assertEqual([len(row.targets), type(row.targets[0])], [1, ast.Name], name)
                    allowed = (ast.Constant, ast.Tuple, ast.List, ast.Dict, ast.Name, ast.BinOp, ast.UnaryOp,
                               ast.operator, ast.unaryop, ast.expr_context)
                    for node in ast.walk(row.value):
                        self.assertIsInstance(node, allowed, name)

    def test_each_name_is_bound_once(self):
        for name, tree in TREES.items():
            names = module_names(tree)
            self.assertEqual(sorted(names), sorted(set(names)), name)

    def test_lists_and_dicts_there_are_only_read(self):
        for name, tree in TREES.items():
            shared = [row.targets[0].id for row in tree.body
                      if isinstance(row, ast.Assign) and isinstance(row.value, (ast.Dict, ast.List))]
            read = set()
            for node in ast.walk(tree):
                if isinstance(node, ast.Subscript) and isinstance(node.ctx, ast.Load):
                    read.add(id(node.value))
                elif isinstance(node, ast.Compare):
                    read.update(id(side) for side in node.comparators)
                elif isinstance(node, (ast.For, ast.comprehension)):
                    read.add(id(node.iter))
                elif isinstance(node, ast.Call) and getattr(node.func, "id", "") in ("len", "list", "dict", "sorted"):
                    read.update(id(given) for given in node.args)
            for node in ast.walk(tree):
                if isinstance(node, ast.Name) and node.id in shared and isinstance(node.ctx, ast.Load):
                    self.assertIn(id(node), read, f"{name}:{node.lineno}")
                if isinstance(node, ast.ImportFrom):
                    for alias in node.names:
                        own = TREES[node.module.partition(".")[2]].body
                        self.assertFalse([row for row in own if isinstance(row, ast.Assign) and isinstance(
                            row.value, (ast.Dict, ast.List)) and row.targets[0].id == alias.name], name)

    def test_imports(self):
        above = {name: [] for name in TREES}
        for name, node in nodes(ast.Import, ast.ImportFrom):
            self.assertIn(node, TREES[name].body)
            self.assertEqual(node.level, 0)
            package, dot, module = node.module.partition(".")
            self.assertEqual(package, "cardlines")
            own = [bound for row in TREES[module].body if not isinstance(row, ast.ImportFrom)
                   for part in (row.targets if isinstance(row, ast.Assign) else [row]) for bound in bound_names(part)]
            for alias in node.names:
                self.assertIn(alias.name, own, f"{name}: {alias.name}")
            above[name].append(module)
        while above:
            free = [name for name in above if not [module for module in above[name] if module in above]]
            self.assertTrue(free, f"files that import from each other: {sorted(above)}")
            above = {name: above[name] for name in above if name not in free}


class Code(unittest.TestCase):
    def test_statements(self):
        for name, node in nodes(ast.stmt):
            self.assertIsInstance(node, STATEMENTS, f"{name}:{node.lineno}")
        for name, node in nodes(ast.FunctionDef):
            self.assertEqual(node.args.posonlyargs, [], name)

    def test_names(self):
        for name, tree in TREES.items():
            fixed = [bound for row in tree.body if isinstance(row, (ast.ImportFrom, ast.ClassDef))
                     for bound in bound_names(row)]
            for node in ast.walk(tree):
                for bound in bound_names(node):
                    if re.fullmatch("__[a-z]+__", bound):
                        self.assertIn(bound[2:-2], DOUBLE, name)
                        continue
                    self.assertRegex(bound, r"\A[A-Za-z][A-Za-z0-9_]*\Z", name)
                    self.assertNotIn(bound, BARRED_NAMES, name)
                    self.assertFalse(hasattr(builtins, bound), f"{name}: {bound}")
                    if not isinstance(node, (ast.ImportFrom, ast.ClassDef)):
                        self.assertNotIn(bound, fixed, name)

    def test_builtins(self):
        for name, tree in TREES.items():
            bound = {word for node in ast.walk(tree) for word in bound_names(node)}
            for node in ast.walk(tree):
                if isinstance(node, ast.Name) and node.id not in bound:
                    self.assertIn(node.id, BUILTINS, f"{name}:{node.lineno}")

    def test_methods_and_attributes(self):
        own = {row.name for name, node in nodes(ast.ClassDef) for row in node.body if isinstance(row, ast.FunctionDef)}
        stored = {node.attr for name, node in nodes(ast.Attribute) if isinstance(node.ctx, ast.Store)}
        self.assertEqual(own & stored, set())
        called = {id(node.func) for name, node in nodes(ast.Call)}
        for name, node in nodes(ast.Attribute):
            if id(node) in called:
                self.assertIn(node.attr, METHODS | own, f"{name}:{node.lineno}")
            else:
                self.assertIn(node.attr, stored | own, f"{name}:{node.lineno}")
            self.assertNotIn(node.attr, ("format", "format_map", "mro", "args"), name)

    def test_expressions(self):
        for name, node in nodes(ast.Div, ast.Await, ast.Set):
            self.assertIsInstance(node, ast.Set, name)
        for name, node in nodes(ast.Constant):
            self.assertNotIsInstance(node.value, (float, complex), f"{name}:{node.lineno}")
        for name, node in nodes(ast.Compare):
            for sign, side in zip(node.ops, node.comparators):
                if isinstance(sign, (ast.Is, ast.IsNot)):
                    self.assertIn(repr(getattr(side, "value", 0)), ("None", "True", "False"), f"{name}:{node.lineno}")
        for name, node in nodes(ast.BinOp):
            if isinstance(node.op, ast.Pow):
                self.assertIn(getattr(node.right, "value", None), range(65), f"{name}:{node.lineno}")

    def test_generator_expressions_beside_an_own_eq(self):
        for name, node in nodes(ast.Call):
            if isinstance(node.func, ast.Name) and node.func.id in ("any", "all", "min", "max", "sum", "sorted"):
                for given in node.args:
                    self.assertNotIsInstance(given, ast.GeneratorExp, f"{name}:{node.lineno}")

    def test_errors(self):
        for name, node in nodes(ast.Raise):
            if node.exc is not None:
                self.assertIsInstance(node.exc, ast.Call, f"{name}:{node.lineno}")
                self.assertIsInstance(node.exc.func, ast.Name, f"{name}:{node.lineno}")
        for name, node in nodes(ast.ExceptHandler):
            self.assertIsNotNone(node.type, f"{name}:{node.lineno}")
            caught = node.type.elts if isinstance(node.type, ast.Tuple) else [node.type]
            for one in caught:
                self.assertNotIn(one.id, ("Exception", "TypeError", "BaseException"), f"{name}:{node.lineno}")

    def test_finally(self):
        simple = (ast.Constant, ast.Name, ast.Attribute, ast.Tuple, ast.List, ast.expr_context)
        for name, node in nodes(ast.Try):
            for row in node.finalbody:
                place = f"{name}:{row.lineno}"
                self.assertIsInstance(row, ast.Expr, place)
                self.assertEqual(row.value.func.attr, "append", place)
                for given in row.value.args:
                    for part in ast.walk(given):
                        self.assertIsInstance(part, simple, place)

    def test_sets_stand_where_they_are_sorted_or_looked_in(self):
        placed = set()
        for name, node in nodes(ast.Call, ast.Compare):
            if isinstance(node, ast.Compare):
                placed.update(id(side) for side in node.comparators)
            elif getattr(node.func, "id", "") in ("sorted", "len"):
                placed.update(id(given) for given in node.args)
        for name, node in nodes(ast.SetComp, ast.Set):
            self.assertIn(id(node), placed, f"{name}:{node.lineno}")

    def test_calls_with_stars(self):
        for name, node in nodes(ast.Call):
            for given in node.args:
                if isinstance(given, ast.Starred):
                    self.assertIsInstance(given.value, (ast.Name, ast.Attribute), f"{name}:{node.lineno}")

    def test_double_underscore_methods(self):
        for name, node in nodes(ast.FunctionDef):
            if node.name in ("__len__", "__str__", "__repr__"):
                self.assertIsInstance(node.body[-1], ast.Return, f"{name}:{node.lineno}")
            if node.name in ("__str__", "__repr__"):
                for row in ast.walk(node):
                    if isinstance(row, ast.Return) and not isinstance(row.value, (ast.Constant, ast.JoinedStr)):
                        self.assertIn(row.value.func.id, ("str", "repr"), f"{name}:{row.lineno}")
            if node.name in ("__eq__", "__len__", "__str__", "__repr__"):
                for row in ast.walk(node):
                    self.assertNotIsInstance(row, (ast.Assign, ast.AugAssign, ast.Delete), f"{name}:{node.lineno}")
            if node.name == "__len__":
                for row in ast.walk(node):
                    if isinstance(row, ast.Return) and not isinstance(row.value, ast.Constant):
                        self.assertEqual(row.value.func.id, "len", f"{name}:{row.lineno}")


if __name__ == "__main__":
    unittest.main()
